package port_test

import (
	"math"
	"slices"
	"testing"

	"horologe/api"
	"horologe/decide"
	"horologe/port"
)

// numbers is a rule that makes numbers, alike at every run.
func numbers(x uint64) func(n int) int {
	return func(n int) int {
		x ^= x << 13
		x ^= x >> 7
		x ^= x << 17
		return int(x >> 11 % uint64(n))
	}
}

// TestHearsOn has ports that hear announcements as far apart as may be, or less; between two of them Tick is told each time there is.
func TestHearsOn(t *testing.T) {
	take := numbers(88172645463325252)
	for state, slaveOnly := range both {
		if !listens(state) {
			continue
		}
		for _, reach := range []int{1, 2, patience} {
			m := machineIn(t, state, slaveOnly)
			now := untilOf(state) - 1
			m.Heard(now)
			for range 100 {
				next := now + patience - take(reach)
				for ; now < next; now++ {
					if n := m.Tick(now); n != 0 || m.State() != state {
						t.Fatalf("P12.5: Tick(%d) of a port that hears on: %d, and it is %d, not %d", now, n, m.State(), state)
					}
				}
				m.Heard(now)
				checkTick(t, m, now, 0)
				check(t, m, state, now+patience)
			}
		}
	}
}

// TestHearsNone has ports that hear nothing more: they are masters at once when their time is over, or listen ever anew.
func TestHearsNone(t *testing.T) {
	for state, slaveOnly := range both {
		if !listens(state) {
			continue
		}
		m := machineIn(t, state, slaveOnly)
		for now := range 1000 {
			m.Tick(now)
			want := state
			if now >= untilOf(state) {
				want = api.Master
				if slaveOnly {
					want = api.Listening
				}
			}
			if m.State() != want {
				t.Fatalf("P12.5: a port that was %d and hears none is %d at %d, not %d", state, m.State(), now, want)
			}
		}
	}
}

// model is a port as the chapter's words tell of it, in their order.
type model struct {
	every, often int
	slaveOnly    bool
	state        int
	until        int
}

func clipped(now int) int {
	switch {
	case now < 0:
		return 0
	case now > api.Most:
		return api.Most
	}
	return now
}

func (m *model) waitTill(now, wait int) {
	m.until = api.Most
	if clipped(now) <= api.Most-wait {
		m.until = clipped(now) + wait
	}
}

func (m *model) become(state, now int) {
	m.state, m.until = state, 0
	if listens(state) {
		m.waitTill(now, m.often*m.every)
	}
}

func (m *model) decide(code, steps, now int, same bool) {
	if isOut(m.state) {
		return
	}
	to := m.state
	switch code {
	case decide.M1, decide.M2, decide.M3:
		if m.state == api.Master || m.state == api.PreMaster {
			return
		}
		to = api.PreMaster
	case decide.P1, decide.P2:
		if m.state == api.Passive {
			return
		}
		to = api.Passive
	case decide.S1:
		if same && (m.state == api.Uncalibrated || m.state == api.Slave) {
			return
		}
		to = api.Uncalibrated
	default:
		return
	}
	if m.slaveOnly && to != api.Uncalibrated {
		if m.state == api.Listening {
			return
		}
		to = api.Listening
	}
	m.become(to, now)
	if to == api.PreMaster {
		wait := 0
		if code == decide.M3 {
			wait = (min(max(steps, 0), 255) + 1) * m.every
		}
		m.waitTill(now, wait)
	}
}

func (m *model) tick(now int) int {
	if !listens(m.state) && m.state != api.PreMaster || clipped(now) < m.until {
		return 0
	}
	was := m.state
	if was != api.PreMaster && m.slaveOnly {
		m.become(api.Listening, now)
		return 2
	}
	m.become(api.Master, now)
	if was == api.PreMaster {
		return 1
	}
	return 2
}

// change does what the table of changes says, but for what it waits.
func (m *model) change(c change, now int) bool {
	to, does := c.to[m.state]
	if !does {
		return false
	}
	if c.name == "Lock" || c.name == "Unlock" {
		m.state = to
	} else {
		m.become(to, now)
	}
	return true
}

// pair is a machine and its model, to which the same calls are told.
type pair struct {
	m    *port.Machine
	want *model
}

// call makes one of the calls; what it tells, and what the model tells, are numbers.
func (p pair) call(which int, take func(int) int, now int) (got, want int) {
	bit := func(is bool) int {
		if is {
			return 1
		}
		return 0
	}
	switch {
	case which < 7:
		c := changes()[which]
		if c.name == "Start" {
			c.call = func(m *port.Machine) bool { return m.Start(now) }
		}
		return bit(c.call(p.m)), bit(p.want.change(c, now))
	case which < 9:
		p.m.Heard(now)
		if listens(p.want.state) {
			p.want.become(p.want.state, now)
		}
		return 0, 0
	case which < 16:
		code, steps, same := take(9)-1, []int{-1, 0, 1, 7, 254, 255, 256, math.MaxInt, math.MinInt}[take(9)], take(2) == 0
		p.m.Decide(code, steps, now, same)
		p.want.decide(code, steps, now, same)
		return 0, 0
	}
	return p.m.Tick(now), p.want.tick(now)
}

// drawn is a time: mostly one about which the port waits, or goes on.
func drawn(take func(int) int, at, until, every int) int {
	switch take(12) {
	case 0:
		return []int{math.MinInt, -1, 0, api.Most - 1, api.Most, api.Most + 1, math.MaxInt}[take(7)]
	case 1, 2:
		return until - 1 + take(3)
	}
	return min(at, api.Most) + take(every+1)
}

func TestAgainstModel(t *testing.T) {
	take := numbers(4711)
	ticks, seen := map[int]int{}, map[int]int{}
	for range 1500 {
		every := []int{1, 2, 10, 1000, maxEvery}[take(5)]
		often, slaveOnly := 2+take(9), take(3) == 0
		p := pair{made(t, every, often, slaveOnly), &model{every, often, slaveOnly, api.Initializing, 0}}
		at := 0
		for range 200 {
			which := take(24)
			if (which == 1 || which == 3) && take(6) != 0 {
				which = 0 // what is out most of the time shows little
			}
			now := drawn(take, at, p.want.until, every)
			got, want := p.call(which, take, now)
			if got != want || p.m.State() != p.want.state || p.m.Until() != p.want.until {
				t.Fatalf("P12.1: behind call %d at %d of New(%d, %d, %v): %d, %d, till %d; not %d, %d, till %d", which, now, every, often, slaveOnly, got, p.m.State(), p.m.Until(), want, p.want.state, p.want.until)
			}
			seen[p.want.state]++
			if which >= 16 {
				ticks[got]++
			}
			if now > at && now <= at+every {
				at = now
			}
		}
	}
	for _, state := range states() {
		if seen[state] < 1000 {
			t.Errorf("the state %d was seen %d times alone", state, seen[state])
		}
	}
	for _, n := range []int{0, 1, 2} {
		if ticks[n] < 1000 {
			t.Errorf("Tick told %d %d times alone", n, ticks[n])
		}
	}
}

// TestSlaveOnlyNeverLeads tells a port that is slaveOnly all there is to tell.
func TestSlaveOnlyNeverLeads(t *testing.T) {
	take := numbers(99)
	p := pair{made(t, 10, 3, true), &model{10, 3, true, api.Initializing, 0}}
	for at := range 20000 {
		p.call(take(24), take, at)
		if !slices.Contains(statesOf(true), p.m.State()) {
			t.Fatalf("P12.3: a port that is slaveOnly is %d", p.m.State())
		}
	}
}

// TestTheSameCallsTellTheSame tells the same calls to two machines.
func TestTheSameCallsTellTheSame(t *testing.T) {
	for _, slaveOnly := range []bool{false, true} {
		told := func() []int {
			take := numbers(31)
			p := pair{made(t, 10, 3, slaveOnly), &model{10, 3, slaveOnly, api.Initializing, 0}}
			var all []int
			for at := range 2000 {
				got, _ := p.call(take(24), take, at)
				all = append(all, got, p.m.State(), p.m.Until())
			}
			return all
		}
		if !slices.Equal(told(), told()) {
			t.Error("R7: the same calls tell otherwise")
		}
	}
}
