package ident

import "horologe/api"

const (
	clockLen  = len(api.Clock{})
	portLen   = clockLen + 2
	maxNumber = 1<<16 - 1
)

// Put is a port's bytes, with false, if its number has no room in two of them; Get is the port of such bytes.
func Put(p api.Port) ([]byte, bool) {
	if p.Number < 0 || p.Number > maxNumber {
		return nil, false
	}
	b := make([]byte, portLen)
	for i := range clockLen {
		b[i] = p.Clock[i]
	}
	b[clockLen], b[clockLen+1] = byte(p.Number>>8), byte(p.Number)
	return b, true
}

func Get(b []byte) (api.Port, bool) {
	if len(b) != portLen {
		return api.Port{}, false
	}
	p := api.Port{Number: int(b[clockLen])<<8 | int(b[clockLen+1])}
	for i := range clockLen {
		p.Clock[i] = b[i]
	}
	return p, true
}
