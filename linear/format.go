package linear

import (
	"strconv"
	"strings"

	"exodus/api"
)

// Format returns the text of a program.
func Format(p api.Program) []string {
	if !Valid(p) {
		return nil
	}
	lines := []string{}
	for i, v := range p.Vars {
		lines = append(lines, formatVar(i, v))
	}
	for _, row := range p.Rows {
		lines = append(lines, formatRow(row))
	}
	return lines
}

// formatVar returns the line of the variable with an index.
func formatVar(i int, v api.Var) string {
	upper, kind := decimal(v.Upper)+"]", "real"
	if v.Open {
		upper = "open)"
	}
	if v.Integer {
		kind = "integer"
	}
	parts := []string{name(i), "in", "[" + decimal(v.Lower) + ",", upper, kind, "cost", decimal(v.Cost)}
	return strings.Join(parts, " ")
}

// formatRow returns the line of a valid row.
func formatRow(row api.Row) string {
	relations := map[int]string{api.Le: "<=", api.Ge: ">=", api.Eq: "="}
	group := "(" + strconv.Itoa(row.Group) + "):"
	parts := []string{row.Name, group, formatTerms(row.Terms), relations[row.Kind], decimal(row.Bound)}
	return strings.Join(parts, " ")
}

// formatTerms returns the text of a sum.
func formatTerms(terms []api.Term) string {
	if len(terms) == 0 {
		return "0"
	}
	parts := []string{}
	for i, term := range terms {
		parts = append(parts, operator(i == 0, term.Coef < 0))
		if size := max(term.Coef, -term.Coef); size != 1 {
			parts = append(parts, decimal(size), " ")
		}
		parts = append(parts, name(term.Var))
	}
	return strings.Join(parts, "")
}

// operator returns what is written ahead of a term without its sign.
func operator(first, negative bool) string {
	switch {
	case first && negative:
		return "-"
	case first:
		return ""
	case negative:
		return " - "
	}
	return " + "
}

// name returns the name of the variable with an index.
func name(i int) string {
	return "x" + strconv.Itoa(i)
}

// decimal returns the decimal text of a number.
func decimal(n int64) string {
	return strconv.FormatInt(n, 10)
}
