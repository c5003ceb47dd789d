package interval

import "surveyor/api"

// span is an interval whose bounds can be compared, and have any number of digits.
type span struct{ low, high end }

// nothing returns the empty span, the only one that is not in order: every other one is extended from it.
func nothing() span {
	return span{missing[api.Int](1), missing[api.Int](-1)}
}

// between returns the span of all integers from low to high.
func between(low, high end) span {
	if order(low, high) > 0 {
		return nothing()
	}
	return span{low, high}
}

// read returns the span of a well-formed interval.
func read(a api.Interval) span {
	if a.Empty {
		return nothing()
	}
	return span{endOf(a.Lo, -1), endOf(a.Hi, 1)}
}

// clipped returns the interval, without bounds that have too many digits.
func (s span) clipped() api.Interval {
	if s.isEmpty() {
		return api.Interval{Empty: true}
	}
	return api.Interval{Lo: text(s.low), Hi: text(s.high)}
}

func (s span) isEmpty() bool {
	return order(s.low, s.high) > 0
}

// isWithin reports whether all integers of s are in t.
func (s span) isWithin(t span) bool {
	return s.isEmpty() || order(t.low, s.low) <= 0 && order(s.high, t.high) <= 0
}

// extended returns the least span that also has an end.
func (s span) extended(b end) span {
	return span{lower(s.low, b), upper(s.high, b)}
}

func (s span) negated() span {
	return span{negated(s.high), negated(s.low)}
}

// positive returns the positive integers.
func (s span) positive() span {
	return intersection(s, span{at[api.Int]("1"), missing[api.Int](1)})
}

// union returns the least span that contains two others.
func union(s, t span) span {
	return span{lower(s.low, t.low), upper(s.high, t.high)}
}

func intersection(s, t span) span {
	return between(upper(s.low, t.low), lower(s.high, t.high))
}
