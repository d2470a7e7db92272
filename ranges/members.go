package ranges

import "luminaire/api"

// members tells of each channel whether it is in a set. The place 0, which is no channel, remains false.
type members [api.MaxChannel + 1]bool

// isChannel reports whether an integer is a channel.
func isChannel(n int) bool {
	return 1 <= n && n <= api.MaxChannel
}

// membersOf returns the channels of ranges.
func membersOf(l []Range) members {
	var m members
	m.put(l, true)
	return m
}

// put adds the channels of ranges, or removes them.
func (m *members) put(l []Range, in bool) {
	for channel := range channels(l) {
		m[channel] = in
	}
}

// set returns the set as ranges.
func (m *members) set() []Range {
	var l []Range
	for channel, in := range m {
		switch {
		case !in:
		case m[channel-1]:
			l[len(l)-1].To = channel
		default:
			l = append(l, Range{channel, channel})
		}
	}
	return l
}

// combine returns the set of the channels that remain, which depends on whether they are in a, and in b.
func combine(a, b []Range, remains func(inA, inB bool) bool) ([]Range, api.Errno) {
	if e := Check(a); e != api.OK {
		return nil, e
	}
	if e := Check(b); e != api.OK {
		return nil, e
	}
	inA, inB := membersOf(a), membersOf(b)
	var m members
	for channel := range channels([]Range{{1, api.MaxChannel}}) {
		m[channel] = remains(inA[channel], inB[channel])
	}
	return m.set(), api.OK
}
