package trees

import (
	"whelk/api"
	"whelk/lexer"
	"whelk/state"
)

// Places of pieces, one bit each.
const (
	bare = 1 << iota
	inHole
	inQuotes
	inSum

	outside  = bare | inHole
	anywhere = outside | inQuotes | inSum
)

// barred is the bytes that a Bare piece cannot have in a place.
func barred(in int) string {
	switch in {
	case bare:
		return " \t\n;&|<>()$`\\\"'"
	case inHole:
		return "$`\\\"'}"
	case inSum:
		return "$`\\\"'#"
	}
	return ""
}

// Fields, one bit each: those of pieces, and behind them those of commands.
const (
	text = 1 << iota
	op
	colon
	kids
	body
	bang
	name
	given
	sets
	words
	redirs
	lists
	cases
)

// pieceRule is what a kind of piece has, where it stands, and what else is asked of it in a place.
type pieceRule struct {
	fields, places int
	may            func(p api.Piece, in int) bool
}

func (j *judge) pieceRules() map[int]pieceRule {
	return map[int]pieceRule{
		api.Bare:    {text, anywhere, j.bare},
		api.Single:  {text, outside, j.single},
		api.Double:  {kids, outside, j.double},
		api.Param:   {text | op | colon | kids, anywhere, j.param},
		api.Command: {body, anywhere, j.inCommand},
		api.Math:    {kids, anywhere, j.math},
	}
}

// commandRule is what a kind of command has, and what is asked of how many there are.
type commandRule struct {
	fields int
	may    func(n api.Node) bool
}

func commandRules() map[int]commandRule {
	return map[int]commandRule{
		api.Simple: {sets | words | redirs, maySimple},
		api.Pipe:   {bang | lists, mayPipe},
		api.And:    {lists, mayPair},
		api.Or:     {lists, mayPair},
		api.Back:   {lists, mayBack},
		api.Group:  {lists | redirs, mayGroup},
		api.Sub:    {lists | redirs, mayGroup},
		api.If:     {lists | redirs, mayIf},
		api.While:  {lists | redirs, mayLoop},
		api.Until:  {lists | redirs, mayLoop},
		api.For:    {name | given | words | lists | redirs, mayFor},
		api.Switch: {words | cases | redirs, maySwitch},
		api.Func:   {name | lists, mayFunc},
	}
}

func maySimple(n api.Node) bool {
	if len(n.Words) == 0 {
		return len(n.Sets)+len(n.Redirs) > 0
	}
	first := n.Words[0]
	return !isSet(first) && (len(n.Sets) > 0 || !isReserved(first))
}

func mayPipe(n api.Node) bool {
	least := 2
	if n.Bang {
		least = 1
	}
	return len(n.Lists) >= least && all(n.Lists, isStage)
}

func mayPair(n api.Node) bool {
	return len(n.Lists) == 2 && kindOf(n.Lists[0]) != 0 && kindOf(n.Lists[0]) != api.Back && isPiped(n.Lists[1])
}

func mayBack(n api.Node) bool {
	return len(n.Lists) == 1 && kindOf(n.Lists[0]) != 0 && kindOf(n.Lists[0]) != api.Back
}

func mayGroup(n api.Node) bool { return len(n.Lists) == 1 && all(n.Lists, isFull) }

func mayIf(n api.Node) bool { return len(n.Lists) >= 2 && all(n.Lists, isFull) }

func mayLoop(n api.Node) bool { return len(n.Lists) == 2 && all(n.Lists, isFull) }

func mayFor(n api.Node) bool {
	return state.Name(n.Name) && (n.Given || len(n.Words) == 0) && mayGroup(n)
}

func maySwitch(n api.Node) bool { return len(n.Words) == 1 }

func mayFunc(n api.Node) bool {
	if !state.Name(n.Name) || lexer.Reserved(n.Name) || len(n.Lists) != 1 {
		return false
	}
	kind := kindOf(n.Lists[0])
	return kind >= api.Group && kind <= api.Switch
}

func isFull(l []api.Node) bool { return len(l) > 0 }

// kindOf is the kind of a list's command, if it is one.
func kindOf(l []api.Node) int {
	if len(l) != 1 {
		return 0
	}
	return l[0].Kind
}

// isPiped tells whether a list is one command that may stand behind a && or ||.
func isPiped(l []api.Node) bool {
	switch kindOf(l) {
	case 0, api.And, api.Or, api.Back:
		return false
	}
	return true
}

// isStage tells whether a list is one command that may stand in a Pipe.
func isStage(l []api.Node) bool { return isPiped(l) && kindOf(l) != api.Pipe }

func commandFields(n api.Node) int {
	return bit(n.Bang, bang) | bit(n.Name != "", name) | bit(n.Given, given) | bit(len(n.Sets) > 0, sets) | bit(len(n.Words) > 0, words) |
		bit(len(n.Redirs) > 0, redirs) | bit(len(n.Lists) > 0, lists) | bit(len(n.Cases) > 0, cases)
}

func pieceFields(p api.Piece) int {
	return bit(p.Text != "", text) | bit(p.Op != 0, op) | bit(p.Colon, colon) | bit(len(p.Kids) > 0, kids) | bit(len(p.Body) > 0, body)
}

func bit(has bool, b int) int {
	if has {
		return b
	}
	return 0
}
