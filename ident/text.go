package ident

import (
	"strings"

	"horologe/api"
)

// digits rise, so that texts stand in the order of their clocks.
const digits = "0123456789abcdef"

// Text is a clock's bytes as digits; Read is the clock of such a text, with false, if it is the text of none.
func Text(c api.Clock) string {
	b := make([]byte, 0, 2*clockLen)
	for i := range clockLen {
		b = append(b, digits[c[i]>>4], digits[c[i]&15])
	}
	return string(b)
}

func Read(s string) (api.Clock, bool) {
	if len(s) != 2*clockLen {
		return api.Clock{}, false
	}
	var c api.Clock
	for i := range clockLen {
		high, low := strings.IndexByte(digits, s[2*i]), strings.IndexByte(digits, s[2*i+1])
		if high < 0 || low < 0 {
			return api.Clock{}, false
		}
		c[i] = byte(high<<4 | low)
	}
	return c, true
}
