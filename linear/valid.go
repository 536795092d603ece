package linear

import "exodus/api"

// What a valid name of a row consists of.
const (
	maxName   = 80
	firstByte = 32
	lastByte  = 126
)

// Valid reports whether a program is valid.
func Valid(p api.Program) bool {
	if len(p.Vars) > api.MaxVars || len(p.Rows) > api.MaxRows {
		return false
	}
	for _, v := range p.Vars {
		if !inRange(v.Lower, v.Upper, v.Cost) || v.Open && v.Upper != 0 {
			return false
		}
	}
	for _, row := range p.Rows {
		if !validRow(row, len(p.Vars)) {
			return false
		}
	}
	return true
}

// validRow reports whether a row of a program with so many variables is valid.
func validRow(row api.Row, vars int) bool {
	if row.Kind != api.Le && row.Kind != api.Ge && row.Kind != api.Eq {
		return false
	}
	if row.Group < 0 || row.Group > api.MaxGroups {
		return false
	}
	return inRange(row.Bound) && validName(row.Name) && validTerms(row.Terms, vars)
}

// validName reports whether a name is short enough and has printable bytes only.
func validName(name string) bool {
	for i := range len(name) {
		if name[i] < firstByte || name[i] > lastByte {
			return false
		}
	}
	return len(name) <= maxName
}

// validTerms reports whether terms name some of so many variables in strictly increasing order, with coefficients that are not 0.
func validTerms(terms []api.Term, vars int) bool {
	last := -1
	for _, term := range terms {
		if term.Var <= last || term.Var >= vars || term.Coef == 0 || !inRange(term.Coef) {
			return false
		}
		last = term.Var
	}
	return true
}

// inRange reports whether no number is beyond MaxCoef.
func inRange(numbers ...int64) bool {
	for _, n := range numbers {
		if n < -api.MaxCoef || n > api.MaxCoef {
			return false
		}
	}
	return true
}
