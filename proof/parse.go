package proof

import (
	"strings"

	"exodus/api"
	"exodus/integer"
	"exodus/rational"
)

// cutter cuts off the next word of a line, and returns false if there is none.
type cutter func() (string, bool)

// reader returns the node with the words that are left of a line, and false if they are not those of its kind. It may leave words.
type reader func(next cutter) (api.Node, bool)

// Parse returns the proof with a text.
func Parse(s string) ([]api.Node, api.Errno) {
	t, kinds := []api.Node{}, readers()
	for len(s) > 0 {
		text, rest, ended := strings.Cut(s, newline)
		n, ok := read(words(text), kinds)
		if !ended || !ok {
			return nil, api.ErrSyntax
		}
		t, s = append(t, n), rest
	}
	if _, ok := Depth(t); !ok {
		return nil, api.ErrSyntax
	}
	return t, api.OK
}

// words returns a function that cuts off the words of a line one by one.
func words(text string) cutter {
	left := true
	return func() (string, bool) {
		if !left {
			return "", false
		}
		word := ""
		word, text, left = strings.Cut(text, space)
		return word, true
	}
}

// read returns the node with the words of a whole line.
func read(next cutter, kinds map[string]reader) (api.Node, bool) {
	word, _ := next()
	kind, known := kinds[word]
	if !known {
		return api.Node{}, false
	}
	n, ok := kind(next)
	_, left := next()
	return n, ok && !left
}

// readers returns the functions that read the kinds of lines, by their first words.
func readers() map[string]reader {
	return map[string]reader{
		farkas: func(next cutter) (api.Node, bool) {
			list, ok := all(next, rational.Parse)
			return api.Node{Kind: api.NodeFarkas, Multipliers: list}, ok
		},
		empty: func(next cutter) (api.Node, bool) {
			v, ok := one(next, index)
			return api.Node{Kind: api.NodeEmpty, Var: v}, ok
		},
		split: func(next cutter) (api.Node, bool) {
			v, ok := one(next, index)
			at, fits := one(next, number)
			return api.Node{Kind: api.NodeSplit, Var: v, At: at}, ok && fits
		},
		round: func(next cutter) (api.Node, bool) {
			list, ok := all(next, rational.Parse)
			return api.Node{Kind: api.NodeCut, Cut: api.Cut{Kind: api.CutRound, Multipliers: list}}, ok
		},
		cover: func(next cutter) (api.Node, bool) {
			row, ok := one(next, index)
			vars, fit := all(next, index)
			return api.Node{Kind: api.NodeCut, Cut: api.Cut{Kind: api.CutCover, Row: row, Vars: vars}}, ok && fit
		},
	}
}

// one returns what the next word stands for.
func one[T any](next cutter, parse func(word string) (T, api.Errno)) (T, bool) {
	word, found := next()
	value, err := parse(word)
	return value, found && err == api.OK
}

// all returns what each word that is left stands for.
func all[T any](next cutter, parse func(word string) (T, api.Errno)) ([]T, bool) {
	list := []T{}
	for word, found := next(); found; word, found = next() {
		value, err := parse(word)
		if err != api.OK {
			return nil, false
		}
		list = append(list, value)
	}
	return list, true
}

// index returns the index with a text.
func index(word string) (int, api.Errno) {
	n, err := number(word)
	if n < 0 {
		return 0, api.ErrSyntax
	}
	return int(n), err
}

// number returns the number with a text.
func number(word string) (int64, api.Errno) {
	a, err := integer.Parse(word)
	n, fits := integer.Int64(a)
	if err != api.OK || !fits {
		return 0, api.ErrSyntax
	}
	return n, api.OK
}
