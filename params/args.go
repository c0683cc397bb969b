package params

import (
	"strconv"
	"strings"

	"whelk/api"
)

// Arg: P15.3.
func Arg(args []string, name string) (string, bool, api.Errno) {
	if !isNumber(name) {
		return "", false, api.ErrArg
	}
	// Digits that are too great a number are of more arguments than there may be.
	n, err := strconv.Atoi(name)
	if err != nil || n > len(args) {
		return "", false, api.OK
	}
	return args[n-1], true, api.OK
}

// isNumber tells whether a name is digits, of which the first one is no 0.
func isNumber(name string) bool {
	return name != "" && name[0] != '0' && strings.Trim(name, "0123456789") == ""
}

// Join: P15.3.
func Join(args []string, ifs string, set bool) string {
	if !set {
		ifs = " "
	}
	return strings.Join(args, ifs[:min(len(ifs), 1)])
}

// Status: P15.3.
func Status(n int) string { return strconv.Itoa(n) }
