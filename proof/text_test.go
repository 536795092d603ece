package proof_test

import (
	"math"
	"math/big"
	"math/rand"
	"reflect"
	"regexp"
	"slices"
	"strconv"
	"strings"
	"testing"

	"exodus/api"
	"exodus/proof"
	"exodus/rational"
)

// sound reports whether a fraction is in its only form, without asking the packages below.
func sound(a api.Rat) bool {
	for _, digits := range []api.Nat{a.Num.Mag, a.Den} {
		if len(digits) > 0 && digits[len(digits)-1] == 0 {
			return false
		}
	}
	if a.Num.Neg && len(a.Num.Mag) == 0 || slices.Equal(a.Den, api.Nat{1}) {
		return false
	}
	divisor := new(big.Int).GCD(nil, nil, natural(a.Num.Mag), natural(a.Den))
	return len(a.Den) == 0 || divisor.Cmp(big.NewInt(1)) == 0
}

// plain reports whether a list of nodes is a plain tree.
func plain(t []api.Node) bool {
	_, rest, ok := depth(t)
	for _, n := range t {
		c := n.Cut
		ok = ok && min(n.Var, c.Row, slices.Min(append(slices.Clone(c.Vars), 0))) == 0 && (n.Kind == api.NodeFarkas || len(n.Multipliers) == 0) && (n.Kind == api.NodeSplit || n.At == 0)
		ok = ok && (n.Kind == api.NodeEmpty || n.Kind == api.NodeSplit || n.Var == 0) && (n.Kind == api.NodeCut || zero(c)) && (c.Kind == api.CutRound || c.Kind == api.CutCover)
		ok = ok && (c.Kind == api.CutCover || c.Row == 0 && len(c.Vars) == 0) && (c.Kind == api.CutRound || len(c.Multipliers) == 0)
		for _, a := range slices.Concat(n.Multipliers, c.Multipliers) {
			ok = ok && sound(a)
		}
	}
	return ok && len(rest) == 0
}

// text returns the text of a plain tree.
func text(t []api.Node) string {
	out := ""
	for _, n := range t {
		words := []string{}
		switch {
		case n.Kind == api.NodeFarkas:
			words = append(words, "farkas")
		case n.Kind == api.NodeEmpty:
			words = append(words, "empty", strconv.Itoa(n.Var))
		case n.Kind == api.NodeSplit:
			words = append(words, "split", strconv.Itoa(n.Var), strconv.FormatInt(n.At, 10))
		case n.Cut.Kind == api.CutRound:
			words = append(words, "round")
		default:
			words = append(words, "cover", strconv.Itoa(n.Cut.Row))
		}
		for _, a := range append(slices.Clone(n.Multipliers), n.Cut.Multipliers...) {
			words = append(words, value(a).RatString())
		}
		for _, v := range n.Cut.Vars {
			words = append(words, strconv.Itoa(v))
		}
		out += strings.Join(words, " ") + "\n"
	}
	return out
}

// lines matches the lines of plain trees.
var lines = regexp.MustCompile(`^(farkas|round)( (0|-?[1-9][0-9]*)(/[1-9][0-9]*)?)*$|^empty (0|[1-9][0-9]*)$|^split (0|[1-9][0-9]*) (0|-?[1-9][0-9]*)$|^cover( (0|[1-9][0-9]*))+$`)

// readable reports whether s is the text of a plain tree whose fractions can be parsed.
func readable(s string) bool {
	body, ended := strings.CutSuffix(s, "\n")
	kinds, shape := map[string]int{"farkas": api.NodeFarkas, "empty": api.NodeEmpty, "split": api.NodeSplit, "round": api.NodeCut, "cover": api.NodeCut}, []api.Node{}
	for line := range strings.SplitSeq(body, "\n") {
		if !ended || !lines.MatchString(line) {
			return false
		}
		words := strings.Split(line, " ")
		shape = append(shape, api.Node{Kind: kinds[words[0]]})
		for _, word := range words[1:] {
			if words[0] == "farkas" || words[0] == "round" {
				a, _ := new(big.Rat).SetString(word)
				num, den, _ := strings.Cut(strings.TrimPrefix(word, "-"), "/")
				if a.RatString() != word || max(len(num), len(den)) > 4000 {
					return false
				}
			} else if _, err := strconv.ParseInt(word, 10, 64); err != nil {
				return false
			}
		}
	}
	_, rest, ok := depth(shape)
	return ok && len(rest) == 0
}

// someRats returns a few valid fractions.
func someRats(r *rand.Rand) []api.Rat {
	out := []api.Rat{}
	for range r.Intn(4) {
		a := frac(r.Int63n(41)-20, 1+r.Int63n(12))
		for range r.Intn(3) * r.Intn(3) {
			a = rational.Mul(a, frac(r.Int63()+1, r.Int63()+1))
		}
		out = append(out, a)
	}
	return out
}

// someTree returns a plain tree, which is hardly a proof of anything.
func someTree(r *rand.Rand, levels int) []api.Node {
	index := func() int {
		return []int{0, 1, 9, 10, r.Intn(1000), math.MaxInt32, math.MaxInt64 - 1, math.MaxInt64}[r.Intn(8)]
	}
	kind := r.Intn(6)
	if levels <= 0 {
		kind = r.Intn(2)
	}
	switch kind {
	case 0:
		return []api.Node{farkas(someRats(r)...)}
	case 1:
		return []api.Node{empty(index())}
	case 2:
		return append([]api.Node{round(someRats(r)...)}, someTree(r, levels-1)...)
	case 3:
		vars := []int{}
		for range r.Intn(4) {
			vars = append(vars, index())
		}
		return append([]api.Node{cover(index(), vars...)}, someTree(r, levels-1)...)
	}
	at := []int64{0, -1, 1, -10, r.Int63(), -r.Int63(), math.MaxInt64, math.MinInt64}[r.Intn(8)]
	return slices.Concat([]api.Node{split(index(), at)}, someTree(r, levels-1), someTree(r, levels-1))
}

// same reports whether two lists of nodes are equal, apart from the difference of nil and empty lists.
func same(a, b []api.Node) bool {
	return reflect.DeepEqual(copied(a), copied(b))
}

// P9.3: the example and a node of each kind.
func TestFormat(t *testing.T) {
	e := empty(0)
	for i, c := range []struct {
		t    []api.Node
		want string
	}{
		{exampleProof(), "split 0 0\nsplit 1 0\nfarkas 1\nfarkas -1\nfarkas -1\n"},
		{[]api.Node{farkas()}, "farkas\n"},
		{[]api.Node{farkas(frac(0, 1), frac(-3, 6), frac(10, 4), frac(12, 1))}, "farkas 0 -1/2 5/2 12\n"},
		{[]api.Node{e}, "empty 0\n"},
		{[]api.Node{empty(math.MaxInt64)}, "empty 9223372036854775807\n"},
		{[]api.Node{split(7, -3), e, empty(12)}, "split 7 -3\nempty 0\nempty 12\n"},
		{[]api.Node{split(0, math.MinInt64), e, e}, "split 0 -9223372036854775808\nempty 0\nempty 0\n"},
		{[]api.Node{split(0, math.MaxInt64), e, e}, "split 0 9223372036854775807\nempty 0\nempty 0\n"},
		{[]api.Node{round(), e}, "round\nempty 0\n"},
		{[]api.Node{round(frac(1, 4), frac(-2, 1)), e}, "round 1/4 -2\nempty 0\n"},
		{[]api.Node{cover(3), e}, "cover 3\nempty 0\n"},
		{[]api.Node{cover(0, 2, 10, 1, 1), e}, "cover 0 2 10 1 1\nempty 0\n"},
		{[]api.Node{{Multipliers: []api.Rat{}, Cut: api.Cut{Multipliers: []api.Rat{}, Vars: []int{}}}}, "farkas\n"},
	} {
		if got := proof.Format(c.t); got != c.want {
			t.Error(i, got)
		}
		if got, err := proof.Parse(c.want); err != api.OK || !same(got, c.t) {
			t.Error(i, got, err)
		}
	}
}

// P9.3: lists that are no plain trees have no text.
func TestFormatNotPlain(t *testing.T) {
	e := empty(0)
	for i, nodes := range [][]api.Node{
		nil, {}, {e, e}, {split(0, 0), e}, {round()}, {{Kind: 4}}, {{Kind: -1}}, {split(0, 0), e, {Kind: 7}},
		{empty(-1)}, {empty(math.MinInt)}, {split(-1, 0), e, e}, {cover(-1), e}, {cover(0, 3, -1), e}, {cover(0, math.MinInt), e},
		{farkas(odd(1, 0))}, {farkas(frac(1, 2), odd(2, 4))}, {farkas(odd(0, 0))}, {farkas(api.Rat{Num: api.Int{Neg: true}})}, {farkas(api.Rat{Den: api.Nat{2}})}, {farkas(api.Rat{Num: api.Int{Mag: api.Nat{3}}, Den: api.Nat{1}})}, {round(odd(1, 2)), e},
		{cutting(api.Cut{Kind: 2}), e}, {cutting(api.Cut{Kind: -1}), e}, {cutting(api.Cut{Kind: math.MaxInt, Vars: []int{1}}), e},
		{cutting(api.Cut{Row: 1}), e}, {cutting(api.Cut{Vars: []int{1}}), e}, {cutting(api.Cut{Kind: api.CutCover, Multipliers: list(0)}), e},
		{{Var: 1}}, {{At: 1}}, {{Cut: api.Cut{Kind: 1}}}, {{Cut: api.Cut{Row: 1}}}, {{Cut: api.Cut{Vars: []int{0}}}}, {{Cut: api.Cut{Multipliers: list(0)}}},
		{{Kind: api.NodeEmpty, At: 1}}, {{Kind: api.NodeEmpty, Multipliers: list(0)}}, {{Kind: api.NodeEmpty, Cut: api.Cut{Kind: 1}}}, {{Kind: api.NodeEmpty, Cut: api.Cut{Multipliers: list(0)}}},
		{{Kind: api.NodeSplit, Multipliers: list(0)}, e, e}, {{Kind: api.NodeSplit, Cut: api.Cut{Vars: []int{0}}}, e, e}, {{Kind: api.NodeSplit, Cut: api.Cut{Row: 2}}, e, e},
		{{Kind: api.NodeCut, Multipliers: list(0)}, e}, {{Kind: api.NodeCut, Var: 1}, e}, {{Kind: api.NodeCut, At: 1}, e},
	} {
		if got := proof.Format(nodes); got != "" || plain(nodes) {
			t.Error(i, got)
		}
	}
}

// P9.3: plain trees and what differs from them in one place, compared with the definitions, and read again.
func TestTextDefinition(t *testing.T) {
	r, counts := rand.New(rand.NewSource(4)), map[bool]int{}
	verify := func(nodes []api.Node) {
		want := ""
		if plain(nodes) {
			want = text(nodes)
		}
		got := proof.Format(nodes)
		if got != want {
			t.Fatal(nodes, got, want)
		}
		counts[want != ""]++
		again, err := proof.Parse(got)
		if want == "" && (err != api.ErrSyntax || len(again) > 0) || want != "" && (err != api.OK || !same(again, nodes)) {
			t.Fatal(nodes, again, err)
		}
	}
	for range 3000 {
		nodes := someTree(r, r.Intn(6))
		verify(nodes)
		for range 5 {
			verify(changed(r, nodes))
		}
	}
	if min(counts[true], counts[false]) < 3000 {
		t.Error(counts)
	}
}

// P9.3: texts that differ from that of a plain tree in some bytes.
func TestParseDefinition(t *testing.T) {
	r, counts := rand.New(rand.NewSource(5)), map[bool]int{}
	pieces := []string{" ", "\n", "0", "1", "9", "-", "/", "+", "00", "-0", "\r", "\t", "empty 0\n", "farkas\n", "round\n", "cover 1\n", "split 0 0\n", "9223372036854775808", "f", "\x00", "é", "1/2", "2/4", "e", " 3"}
	for range 40000 {
		s := proof.Format(someTree(r, r.Intn(4)))
		for range 1 + r.Intn(2) {
			i := r.Intn(len(s) + 1)
			k := min(len(s), i+r.Intn(3)*r.Intn(3))
			s = s[:i] + pieces[r.Intn(len(pieces))] + s[k:]
		}
		nodes, err := proof.Parse(s)
		if ok := err == api.OK; ok != readable(s) || ok && (!plain(nodes) || text(nodes) != s || proof.Format(nodes) != s) || !ok && (err != api.ErrSyntax || len(nodes) > 0) {
			t.Fatalf("%q %v %v", s, nodes, err)
		}
		counts[err == api.OK]++
	}
	if min(counts[true], counts[false]) < 2000 {
		t.Error(counts)
	}
}

// P9.3 and the errors of Parse.
func TestParseErrors(t *testing.T) {
	most := strings.Repeat("9", 4000)
	for s, want := range map[string]api.Errno{
		"": api.ErrSyntax, "\n": api.ErrSyntax, " ": api.ErrSyntax, "farkas": api.ErrSyntax, "farkas\n\n": api.ErrSyntax, "\nfarkas\n": api.ErrSyntax, "farkas\r\n": api.ErrSyntax, "farkas\n ": api.ErrSyntax,
		" farkas\n": api.ErrSyntax, "farkas \n": api.ErrSyntax, "farkas  1\n": api.ErrSyntax, "farkas\t1\n": api.ErrSyntax, "farkas 1 \n": api.ErrSyntax, "Farkas\n": api.ErrSyntax, "farkas1\n": api.ErrSyntax, "farka\n": api.ErrSyntax, "farkass\n": api.ErrSyntax, "node\n": api.ErrSyntax, "0\n": api.ErrSyntax, "\x00\n": api.ErrSyntax,
		"farkas +1\n": api.ErrSyntax, "farkas 01\n": api.ErrSyntax, "farkas -0\n": api.ErrSyntax, "farkas 1.5\n": api.ErrSyntax, "farkas 2/4\n": api.ErrSyntax, "farkas 3/1\n": api.ErrSyntax, "farkas 0/2\n": api.ErrSyntax, "farkas 1/0\n": api.ErrSyntax, "farkas 1/-2\n": api.ErrSyntax, "farkas /2\n": api.ErrSyntax, "farkas 1/\n": api.ErrSyntax, "farkas 1 / 2\n": api.ErrSyntax, "farkas -\n": api.ErrSyntax, "farkas x\n": api.ErrSyntax,
		"empty\n": api.ErrSyntax, "empty \n": api.ErrSyntax, "empty -1\n": api.ErrSyntax, "empty -0\n": api.ErrSyntax, "empty 00\n": api.ErrSyntax, "empty 0 0\n": api.ErrSyntax, "empty 1/2\n": api.ErrSyntax, "empty 9223372036854775808\n": api.ErrSyntax, "empty 18446744073709551616\n": api.ErrSyntax, "empty -9223372036854775808\n": api.ErrSyntax,
		"split 0 0\nempty 0\n": api.ErrSyntax, "split\nempty 0\nempty 0\n": api.ErrSyntax, "split 0\nempty 0\nempty 0\n": api.ErrSyntax, "split 0 0 0\nempty 0\nempty 0\n": api.ErrSyntax, "split -1 0\nempty 0\nempty 0\n": api.ErrSyntax, "split 0 9223372036854775808\nempty 0\nempty 0\n": api.ErrSyntax, "split 0 -9223372036854775809\nempty 0\nempty 0\n": api.ErrSyntax, "split 0 1/2\nempty 0\nempty 0\n": api.ErrSyntax, "split 0 0\nempty 0\nempty 0\nempty 0\n": api.ErrSyntax, "empty 0\nempty 0\n": api.ErrSyntax,
		"round\n": api.ErrSyntax, "round 1/2": api.ErrSyntax, "round 4/2\nempty 0\n": api.ErrSyntax, "cover\nempty 0\n": api.ErrSyntax, "cover -1\nempty 0\n": api.ErrSyntax, "cover 0 -1\nempty 0\n": api.ErrSyntax, "cover 0 1 \nempty 0\n": api.ErrSyntax, "cover 0 9223372036854775808\nempty 0\n": api.ErrSyntax, "cover 1/2\nempty 0\n": api.ErrSyntax,
		"farkas " + most + "9\n": api.ErrSyntax, "farkas -" + most + "9\n": api.ErrSyntax, "farkas 1/" + most + "9\n": api.ErrSyntax, "empty " + most + "\n": api.ErrSyntax,
		"farkas " + most + "\n": api.OK, "farkas -" + most + "\n": api.OK, "farkas 1/" + most + "\n": api.OK, "round -1/" + most + " " + most + "/2\nfarkas\n": api.OK,
	} {
		nodes, err := proof.Parse(s)
		if err != want || err != api.OK && len(nodes) > 0 || err == api.OK && proof.Format(nodes) != s {
			t.Errorf("%.50q %v", s, err)
		}
	}
	// A fraction may be too long to be parsed, but not to be written.
	long, _ := rational.Parse(most)
	nodes := []api.Node{farkas(rational.Mul(long, rational.From(10)))}
	if got := proof.Format(nodes); got != "farkas "+most+"0\n" {
		t.Error(len(got))
	}
}
