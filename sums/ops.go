package sums

// opAhead is the Op of a mark that stands ahead of its one Kid; empty, if the mark may not stand so.
func opAhead(mark string) string {
	switch mark {
	case "-":
		return "neg"
	case "+":
		return "pos"
	case "!":
		return "not"
	case "~":
		return "com"
	}
	return ""
}

// markAhead is the mark of such an Op; empty, if the Op is none of these.
func markAhead(op string) string {
	switch op {
	case "neg":
		return "-"
	case "pos":
		return "+"
	case "not":
		return "!"
	case "com":
		return "~"
	}
	return ""
}

// row is how early a mark between two Kids goes, the earliest the greatest; 0 of what is no such mark.
func row(mark string) int {
	switch mark {
	case "*", "/", "%":
		return 10
	case "+", "-":
		return 9
	case "<<", ">>":
		return 8
	case "<", "<=", ">", ">=":
		return 7
	case "==", "!=":
		return 6
	case "&":
		return 5
	case "^":
		return 4
	case "|":
		return 3
	case "&&":
		return 2
	case "||":
		return 1
	}
	return 0
}

// assigns is whether a mark is that of an assignment.
func assigns(mark string) bool {
	switch mark {
	case "=", "*=", "/=", "%=", "+=", "-=", "<<=", ">>=", "&=", "^=", "|=":
		return true
	}
	return false
}

// isMark is whether a text is a mark.
func isMark(s string) bool {
	switch s {
	case "(", ")", "?", ":":
		return true
	}
	return opAhead(s) != "" || row(s) > 0 || assigns(s)
}

// kids is how many Kids an Op has; -1 of an Op that is none.
func kids(op string) int {
	switch {
	case op == "num" || op == "name":
		return 0
	case markAhead(op) != "" || assigns(op):
		return 1
	case row(op) > 0:
		return 2
	case op == "?":
		return 3
	}
	return -1
}
