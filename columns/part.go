package columns

import "exodus/api"

// linking takes the place of the block of a row that belongs to none.
const linking = -1

// part is a block of a program, with the places of its variables and rows in the whole program.
type part struct {
	block   int
	program api.Program
	vars    []int
	rows    []int
}

// newPart returns a block of a program.
func newPart(p api.Program, blocks []int, b int) part {
	own, numbers := part{block: b, rows: rowsOf(p, blocks, b)}, map[int]int{}
	for i, v := range p.Vars {
		if blocks[i] == b {
			numbers[i] = len(own.vars)
			own.vars = append(own.vars, i)
			own.program.Vars = append(own.program.Vars, v)
		}
	}
	for _, i := range own.rows {
		row, terms := p.Rows[i], []api.Term{}
		for _, term := range row.Terms {
			terms = append(terms, api.Term{Var: numbers[term.Var], Coef: term.Coef})
		}
		row.Terms = terms
		own.program.Rows = append(own.program.Rows, row)
	}
	return own
}

// rowsOf returns the indices of the rows that belong to a block, or of those that are linking.
func rowsOf(p api.Program, blocks []int, b int) []int {
	list := []int{}
	for i, row := range p.Rows {
		if owner(row, blocks) == b {
			list = append(list, i)
		}
	}
	return list
}

// owner returns the block to which a row belongs, or linking.
func owner(row api.Row, blocks []int) int {
	if len(row.Terms) == 0 {
		return linking
	}
	b := blocks[row.Terms[0].Var]
	for _, term := range row.Terms {
		if blocks[term.Var] != b {
			return linking
		}
	}
	return b
}

// pick returns the fractions at some places of a list.
func pick(list []api.Rat, places []int) []api.Rat {
	out := []api.Rat{}
	for _, place := range places {
		out = append(out, list[place])
	}
	return out
}

// spread returns a list of n fractions, with given ones at some places and 0 at the others.
func spread(list []api.Rat, places []int, n int) []api.Rat {
	out := make([]api.Rat, n)
	for k, place := range places {
		out[place] = list[k]
	}
	return out
}
