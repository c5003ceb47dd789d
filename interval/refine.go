package interval

import "surveyor/api"

// refinements returns what comparisons leave of two spans. An empty one remains empty, whatever the other one becomes.
func refinements() map[int]func(s, t span) (span, span) {
	return map[int]func(s, t span) (span, span){
		api.CondEq: func(s, t span) (span, span) {
			both := intersection(s, t)
			return both, both
		},
		api.CondNe: func(s, t span) (span, span) {
			return without(s, t), without(t, s)
		},
		api.CondLt: func(s, t span) (span, span) {
			return upTo(s, shifted(t.high, "-1")), from(t, shifted(s.low, "1"))
		},
		api.CondLe: func(s, t span) (span, span) {
			return upTo(s, t.high), from(t, s.low)
		},
	}
}

// without returns s without the integer of t, if that is the only one, and an end of s.
func without(s, t span) span {
	switch {
	case t.low != t.high:
		return s
	case s.low == t.low:
		return between(shifted(s.low, "1"), s.high)
	case s.high == t.low:
		return between(s.low, shifted(s.high, "-1"))
	}
	return s
}

func upTo(s span, high end) span {
	return between(s.low, lower(s.high, high))
}

func from(s span, low end) span {
	return between(upper(s.low, low), s.high)
}

// refined returns what a comparison leaves of both spans: nothing of either, if nothing is left of one.
func refined(s, t span, refine func(s, t span) (span, span)) (span, span) {
	s, t = refine(s, t)
	if s.isEmpty() || t.isEmpty() {
		return nothing(), nothing()
	}
	return s, t
}
