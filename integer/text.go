package integer

import (
	"exodus/api"
	"exodus/natural"
)

// Text returns the decimal text.
func Text(a api.Int) string {
	if Sign(a) < 0 {
		return "-" + natural.Text(a.Mag)
	}
	return natural.Text(a.Mag)
}

// Parse returns the integer with a decimal text.
func Parse(s string) (api.Int, api.Errno) {
	negative := len(s) > 0 && s[0] == '-'
	if negative {
		s = s[1:]
	}
	magnitude, err := natural.Parse(s)
	if err != api.OK {
		return api.Int{}, err
	}
	if negative && len(magnitude) == 0 {
		return api.Int{}, api.ErrSyntax
	}
	return signed(negative, magnitude), api.OK
}
