package record

import "luminaire/api"

const (
	groupBits  = 7
	moreBit    = 1 << groupBits // is in all groups but the last one
	mostGroups = 10
	highest    = 1 // the greatest one at the place of the last of these, since 64 bits are 9 groups and one bit more
)

// fold returns an int as a number without a sign: the ints that are not negative become the even ones.
func fold(n int) uint64 {
	if n < 0 {
		return 2*uint64(-(n+1)) + 1
	}
	return 2 * uint64(n)
}

// unfold returns the int that becomes a number without a sign.
func unfold(z uint64) int {
	if z%2 == 1 {
		return -int(z/2) - 1
	}
	return int(z / 2)
}

// Int returns the bytes of an int.
func Int(n int) string {
	var groups []byte
	z := fold(n)
	for ; z >= moreBit; z >>= groupBits {
		groups = append(groups, byte(z)|moreBit)
	}
	return string(append(groups, byte(z)))
}

// GetInt returns the int whose bytes begin at an offset, and the offset behind them.
func GetInt(s string, at int) (int, int, api.Errno) {
	if !isOffset(at, s) {
		return 0, 0, api.ErrRange
	}
	z, groups, e := readGroups(s[at:])
	if e != api.OK {
		return 0, 0, e
	}
	return unfold(z), at + groups, api.OK
}

// readGroups returns the number whose groups are at the beginning of a text, and how many groups it has.
func readGroups(s string) (z uint64, groups int, e api.Errno) {
	e = api.ErrTorn // if the text ends within the loop
read:
	for i := range len(s) {
		group := s[i]
		switch {
		case i == mostGroups-1 && group > highest, i > 0 && group == 0:
			e = api.ErrForm
			break read
		case group < moreBit:
			return z | uint64(group)<<(groupBits*i), i + 1, api.OK
		}
		z |= uint64(group-moreBit) << (groupBits * i)
	}
	return 0, 0, e
}
