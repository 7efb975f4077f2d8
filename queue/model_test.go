package queue

import "tocsin/api"

// A model is a plain reckoning: all that was ever put, in a list, and how many of these have gone.
type model struct {
	size, base, most         int
	put                      []string
	gone                     int
	failures, until, dropped int
}

func (m *model) waiting() []string { return m.put[m.gone:] }

func (m *model) addPut(x string) (string, bool) {
	went, ok := "", len(m.waiting()) == m.size
	if ok {
		went = m.put[m.gone]
		m.gone++
		if m.dropped < api.MaxTime {
			m.dropped++
		}
	}
	m.put = append(m.put, x)
	return went, ok
}

func (m *model) head(now int) (string, bool) {
	if m.gone < len(m.put) && now >= m.until {
		return m.put[m.gone], true
	}
	return "", false
}

func (m *model) addDone() api.Errno {
	if m.gone == len(m.put) {
		return api.ErrState
	}
	m.gone++
	m.failures, m.until = 0, 0
	return api.OK
}

func (m *model) addFailed(now int) api.Errno {
	switch {
	case m.gone == len(m.put):
		return api.ErrState
	case now < 0 || now > api.MaxTime:
		return api.ErrArg
	}
	if m.failures < api.MaxTime {
		m.failures++
	}
	m.until = now + delayOf(m.base, m.most, m.failures)
	return api.OK
}

func (m *model) set(failures, until, dropped int) api.Errno {
	for _, n := range []int{failures, until, dropped} {
		if n < 0 {
			return api.ErrArg
		}
	}
	if failures > 1000000000 || until > 2000000000 || dropped > 1000000000 {
		return api.ErrArg
	}
	m.failures, m.until, m.dropped = failures, until, dropped
	return api.OK
}

func (m *model) state() [4]int {
	return [4]int{len(m.put) - m.gone, m.failures, m.until, m.dropped}
}

// delayOf is base times 2^(k-1), but at most most; from the 32nd on this is above any most.
func delayOf(base, most, k int) int {
	if k > 31 {
		return most
	}
	return int(min(int64(base)<<(k-1), int64(most)))
}
