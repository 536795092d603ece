package rational

import (
	"strings"

	"exodus/api"
	"exodus/integer"
	"exodus/natural"
)

const slash = "/"

// Text returns the text.
func Text(a api.Rat) string {
	a = lowest(parts(a))
	if len(a.Den) == 0 {
		return integer.Text(a.Num)
	}
	return integer.Text(a.Num) + slash + natural.Text(a.Den)
}

// Parse returns the fraction with a text.
func Parse(s string) (api.Rat, api.Errno) {
	numText, denText, found := strings.Cut(s, slash)
	num, err := integer.Parse(numText)
	if err != api.OK {
		return api.Rat{}, err
	}
	if !found {
		return api.Rat{Num: num}, api.OK
	}
	den, err := natural.Parse(denText)
	if err != api.OK {
		return api.Rat{}, err
	}
	a := api.Rat{Num: num, Den: den}
	// A denominator of 0 parses to no digits, as that of an integer has; neither is written.
	if len(den) == 0 || !Valid(a) {
		return api.Rat{}, api.ErrSyntax
	}
	return a, api.OK
}
