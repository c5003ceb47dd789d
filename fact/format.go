package fact

import (
	"strings"

	"surveyor/api"
)

// sum returns the text of the expression of a fact.
func sum(f api.Fact, names []string) string {
	var parts []string
	for i, c := range terms(f) {
		parts = append(parts, sign(c, len(parts) == 0)+term(c, names[i]))
	}
	if f.Const != "0" || len(parts) == 0 {
		parts = append(parts, sign(f.Const, len(parts) == 0)+magnitude(f.Const))
	}
	return strings.Join(parts, "")
}

// sign returns the text before the magnitude of a number: that of the first part of a sum, or of a further one.
func sign(x api.Int, isFirst bool) string {
	isNegative := compare(x, "0") < 0
	switch {
	case isNegative && isFirst:
		return "-"
	case isNegative:
		return " - "
	case isFirst:
		return ""
	}
	return " + "
}

// term returns the text of a variable with the magnitude of its coefficient, which is left out if it is 1.
func term(c api.Int, name string) string {
	if size := magnitude(c); size != "1" {
		return size + " " + name
	}
	return name
}

func magnitude(x api.Int) string {
	return strings.TrimPrefix(string(x), "-")
}

// relation returns the text behind the expression of a fact.
func relation(f api.Fact) string {
	switch f.Op {
	case api.FactGe:
		return " >= 0"
	case api.FactEq:
		return " = 0"
	}
	return " mod " + string(f.Mod) + " = 0"
}
