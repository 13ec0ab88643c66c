package head

import (
	"horologe/api"
	"horologe/ident"
)

const version = 2

// Where the parts of a head stand in its bytes, from 0 on; a spare byte must be 0.
const (
	typeAt       = 0
	versionAt    = 1
	lengthAt     = 2
	domainAt     = 4
	spareAt      = 5
	flagsAt      = 6
	correctionAt = 8
	sparesAt     = 16
	sourceAt     = 20
	seqAt        = 30
	lastSpareAt  = 32
	logAt        = 33
	headLen      = 34
)

// The first byte has the type in its lower half; the higher one is spare.
const (
	typeBits = 4
	typeMask = 1<<typeBits - 1
)

// Encode is a head's bytes, with false, if it is not right; Decode is the head of a whole message, or what is wrong with it.
func Encode(h Head) ([]byte, bool) {
	source, ok := ident.Put(h.Source)
	if !ok || !Right(h) {
		return nil, false
	}
	return lay(
		number(h.Type, 1),
		number(version, 1),
		number(Long(h.Type), 2),
		number(h.Domain, 1),
		number(0, 1),
		number(h.Flags, 2),
		number(h.Correction, 8),
		number(0, 4),
		source,
		number(h.Seq, 2),
		number(0, 1),
		number(h.Log, 1),
	), true
}

func Decode(b []byte) (Head, api.Errno) {
	if e := formFault(b); e != api.OK {
		return Head{}, e
	}
	h := Head{
		Type:       typeOf(b),
		Domain:     int(b[domainAt]),
		Flags:      read(b[flagsAt:correctionAt]),
		Correction: read(b[correctionAt:sparesAt]),
		Seq:        read(b[seqAt:lastSpareAt]),
		Log:        int(int8(b[logAt])),
	}
	if !rightFlags(h.Type, h.Flags) {
		return Head{}, api.ErrHeadFlags
	}
	source, ok := ident.Get(b[sourceAt:seqAt])
	if !ok || !rightNumber(source.Number) {
		return Head{}, api.ErrHeadSource
	}
	h.Source = source
	return h, api.OK
}

// formFault is the first thing that is wrong with a message's bytes ahead of what its head says.
func formFault(b []byte) api.Errno {
	if len(b) < headLen {
		return api.ErrHeadShort
	}
	if b[versionAt] != version {
		return api.ErrHeadVersion
	}
	long := Long(typeOf(b))
	if long == 0 {
		return api.ErrHeadType
	}
	if read(b[lengthAt:domainAt]) != long || len(b) != long {
		return api.ErrHeadLength
	}
	if b[typeAt]>>typeBits != 0 || b[spareAt] != 0 || read(b[sparesAt:sourceAt]) != 0 || b[lastSpareAt] != 0 {
		return api.ErrHeadReserved
	}
	return api.OK
}

func typeOf(b []byte) int { return int(b[typeAt] & typeMask) }

// lay puts pieces one behind the other.
func lay(pieces ...[]byte) []byte {
	b := make([]byte, 0, headLen)
	for _, p := range pieces {
		b = append(b, p...)
	}
	return b
}

// number is n in so many bytes, the highest first. The bits of a number below 0 go on to the left as ones, so its lowest bytes are it with its sign.
func number(n, size int) []byte {
	b := make([]byte, size)
	for i := size - 1; i >= 0; i-- {
		b[i] = byte(n)
		n >>= 8
	}
	return b
}

// read is the number of such bytes; eight of them have its sign.
func read(b []byte) int {
	n := 0
	for _, x := range b {
		n = n<<8 | int(x)
	}
	return n
}
