package proof

import (
	"strings"

	"exodus/api"
	"exodus/integer"
	"exodus/rational"
)

// The first words of the lines, and what is between words and behind lines.
const (
	farkas  = "farkas"
	empty   = "empty"
	split   = "split"
	round   = "round"
	cover   = "cover"
	space   = " "
	newline = "\n"
)

// Format returns the text of a proof.
func Format(t []api.Node) string {
	if !plain(t) {
		return ""
	}
	text := strings.Builder{}
	for _, n := range t {
		text.WriteString(line(n))
	}
	return text.String()
}

// line returns the line of a node of a plain tree.
func line(n api.Node) string {
	switch n.Kind {
	case api.NodeFarkas:
		return joined(farkas, fractions(n.Multipliers)...)
	case api.NodeEmpty:
		return joined(empty, decimal(n.Var))
	case api.NodeSplit:
		return joined(split, decimal(n.Var), integer.Text(integer.From(n.At)))
	}
	if n.Cut.Kind == api.CutRound {
		return joined(round, fractions(n.Cut.Multipliers)...)
	}
	words := []string{decimal(n.Cut.Row)}
	for _, v := range n.Cut.Vars {
		words = append(words, decimal(v))
	}
	return joined(cover, words...)
}

// joined returns a line of words.
func joined(first string, others ...string) string {
	return strings.Join(append([]string{first}, others...), space) + newline
}

// fractions returns the texts of fractions.
func fractions(list []api.Rat) []string {
	words := []string{}
	for _, a := range list {
		words = append(words, rational.Text(a))
	}
	return words
}

// decimal returns the text of an index.
func decimal(i int) string {
	return integer.Text(integer.From(int64(i)))
}
