package interval

import (
	"sort"

	"surveyor/api"
	"surveyor/number"
)

// checkThresholds returns the error of a list of thresholds.
func checkThresholds(thresholds []api.Int) api.Errno {
	if len(thresholds) > api.MaxList {
		return api.ErrMany
	}
	for i, threshold := range thresholds {
		if e := number.Check(threshold); e != api.OK {
			return e
		}
		if i > 0 && order(at(thresholds[i-1]), at(threshold)) >= 0 {
			return api.ErrOrder
		}
	}
	return api.OK
}

// widened returns a span that contains two others, whose ends are those of s or thresholds.
func widened(s, t span, thresholds []api.Int) span {
	if s.isEmpty() {
		return t
	}
	both := union(s, t)
	if both.low != s.low {
		both.low = lastUpTo(both.low, thresholds)
	}
	if both.high != s.high {
		both.high = firstFrom(both.high, thresholds)
	}
	return both
}

// lastUpTo returns the greatest threshold that is not above an end.
func lastUpTo(b end, thresholds []api.Int) end {
	count := sort.Search(len(thresholds), func(i int) bool { return order(at(thresholds[i]), b) > 0 })
	if count == 0 {
		return missing[api.Int](-1)
	}
	return at(thresholds[count-1])
}

// firstFrom returns the least threshold that is not below an end.
func firstFrom(b end, thresholds []api.Int) end {
	place := sort.Search(len(thresholds), func(i int) bool { return order(at(thresholds[i]), b) >= 0 })
	if place == len(thresholds) {
		return missing[api.Int](1)
	}
	return at(thresholds[place])
}

// narrowed returns s with the ends of t where its own ones are missing.
func narrowed(s, t span) span {
	if s.isEmpty() || t.isEmpty() {
		return nothing()
	}
	if s.low.isMissing() {
		s.low = t.low
	}
	if s.high.isMissing() {
		s.high = t.high
	}
	return between(s.low, s.high)
}
