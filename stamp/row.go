package stamp

import "horologe/api"

const (
	secBytes = 6
	nsBytes  = 4
)

// row is a stamp as it stands in messages: Sec, and behind it Ns, the highest byte first.
type row [secBytes + nsBytes]byte

// Put writes a stamp; Get reads it: each with ErrStampForm, if the stamp is not right.
func Put(s Stamp) ([]byte, api.Errno) {
	if !Right(s) {
		return nil, api.ErrStampForm
	}
	var r row
	write(r[:secBytes], s.Sec)
	write(r[secBytes:], s.Ns)
	return r[:], api.OK
}

func Get(b []byte) (Stamp, api.Errno) {
	var r row
	if len(b) != len(r) {
		return Stamp{}, api.ErrStampForm
	}
	copy(r[:], b)
	s := Stamp{Sec: read(r[:secBytes]), Ns: read(r[secBytes:])}
	if !Right(s) {
		return Stamp{}, api.ErrStampForm
	}
	return s, api.OK
}

func write(b []byte, n int) {
	for i := len(b) - 1; i >= 0; i-- {
		b[i] = byte(n)
		n >>= 8
	}
}

func read(b []byte) int {
	n := 0
	for _, x := range b {
		n = n<<8 | int(x)
	}
	return n
}
