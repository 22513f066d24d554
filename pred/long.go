package pred

import (
	"math/bits"

	"parquet/api"
	"parquet/wide"
)

// long is an integer of 128 bits in two's complement: room for sums of products of any two differences of points that fit, which are below 2^70.
type long struct {
	high uint64
	low  uint64
}

func longOf(n int) long {
	return long{high: upper(uint64(n)), low: uint64(n)}
}

// upper returns the upper half of the number whose lower half is low, if that half alone has room for it: all bits are as its sign.
func upper(low uint64) uint64 {
	return uint64(int64(low) >> 63)
}

// times returns x * y.
func times(x, y int) long {
	high, low := bits.Mul64(uint64(x), uint64(y))
	// A negative factor was taken for one that is 2^64 greater.
	if x < 0 {
		high -= uint64(y)
	}
	if y < 0 {
		high -= uint64(x)
	}
	return long{high: high, low: low}
}

func (l long) plus(m long) long {
	low, carry := bits.Add64(l.low, m.low, 0)
	high, _ := bits.Add64(l.high, m.high, carry)
	return long{high: high, low: low}
}

func (l long) minus(m long) long {
	low, borrow := bits.Sub64(l.low, m.low, 0)
	high, _ := bits.Sub64(l.high, m.high, borrow)
	return long{high: high, low: low}
}

func (l long) sign() int {
	switch {
	case int64(l.high) < 0:
		return -1
	case l == long{}:
		return 0
	default:
		return 1
	}
}

// small returns l as an int, and whether it is one.
func (l long) small() (int, bool) {
	return int(l.low), l.high == upper(l.low)
}

func (l long) wide() api.Wide {
	if l.sign() < 0 {
		l = long{}.minus(l)
		return api.Wide{Minus: true, L: [4]uint64{l.low, l.high}}
	}
	return api.Wide{L: [4]uint64{l.low, l.high}}
}

// product returns l * m, for which a Wide always has room.
func product(l, m long) api.Wide {
	x, smallX := l.small()
	y, smallY := m.small()
	if smallX && smallY {
		return times(x, y).wide()
	}
	w, _ := wide.Mul(l.wide(), m.wide())
	return w
}
