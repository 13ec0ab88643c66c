package port_test

import (
	"math"
	"testing"

	"horologe/api"
	"horologe/decide"
	"horologe/port"
)

const (
	maxEvery = 1 << 40
	every    = 10
	often    = 3
	patience = often * every
)

func states() []int {
	return []int{api.Initializing, api.Faulty, api.Disabled, api.Listening, api.PreMaster, api.Master, api.Passive, api.Uncalibrated, api.Slave}
}

// statesOf are those to which a port comes: one that is slaveOnly is never PreMaster, Master or Passive.
func statesOf(slaveOnly bool) []int {
	if slaveOnly {
		return []int{api.Initializing, api.Faulty, api.Disabled, api.Listening, api.Uncalibrated, api.Slave}
	}
	return states()
}

// both goes through all states of both kinds of ports.
func both(yield func(state int, slaveOnly bool) bool) {
	for _, slaveOnly := range []bool{false, true} {
		for _, state := range statesOf(slaveOnly) {
			if !yield(state, slaveOnly) {
				return
			}
		}
	}
}

// listens tells states by the chapter's own list.
func listens(state int) bool {
	return state == api.Listening || state == api.Passive || state == api.Uncalibrated || state == api.Slave
}

// untilOf is up to which time a port waits that machineIn makes: another one in each state.
func untilOf(state int) int {
	switch state {
	case api.Listening:
		return 130
	case api.PreMaster:
		return 121
	case api.Passive:
		return 135
	case api.Uncalibrated:
		return 140
	case api.Slave:
		return 145
	}
	return 0
}

func made(t *testing.T, every, often int, slaveOnly bool) *port.Machine {
	t.Helper()
	m, e := port.New(every, often, slaveOnly)
	if m == nil || e != api.OK {
		t.Fatalf("P12.1: New(%d, %d, %v): %v", every, often, slaveOnly, e)
	}
	return m
}

// machineIn is brought to a state by calls, and waits up to untilOf it.
func machineIn(t *testing.T, state int, slaveOnly bool) *port.Machine {
	t.Helper()
	m := made(t, every, often, slaveOnly)
	if state != api.Initializing && state != api.Faulty && state != api.Disabled {
		m.Start(100)
	}
	switch state {
	case api.Faulty:
		m.Fault()
	case api.Disabled:
		m.Disable()
	case api.PreMaster:
		m.Decide(decide.M3, 1, 101, false)
	case api.Master:
		m.Tick(130)
	case api.Passive:
		m.Decide(decide.P1, 0, 105, false)
	case api.Uncalibrated:
		m.Decide(decide.S1, 0, 110, false)
	case api.Slave:
		m.Decide(decide.S1, 0, 115, false)
		m.Lock()
	}
	check(t, m, state, untilOf(state))
	return m
}

func check(t *testing.T, m *port.Machine, state, until int) {
	t.Helper()
	if m.State() != state || m.Until() != until {
		t.Errorf("P12.1: it is %d, till %d; not %d, till %d", m.State(), m.Until(), state, until)
	}
}

func checkTick(t *testing.T, m *port.Machine, now, want int) {
	t.Helper()
	if n := m.Tick(now); n != want {
		t.Errorf("P12.4: Tick(%d): %d, not %d", now, n, want)
	}
}

func TestByHand(t *testing.T) {
	m := made(t, 10, 3, false)
	if !m.Start(5) || m.Until() != 35 {
		t.Error("P12.2: Start(5):", m.Until())
	}
	checkTick(t, m, 34, 0)
	checkTick(t, m, 35, 2)
	check(t, m, api.Master, 0)

	m = made(t, 10, 3, false)
	if !m.Start(0) {
		t.Error("P12.2: Start(0)")
	}
	m.Decide(decide.S1, 0, 0, false)
	if !m.Lock() {
		t.Error("P12.2: Lock")
	}
	check(t, m, api.Slave, 30)
}

func TestNew(t *testing.T) {
	for _, slaveOnly := range []bool{false, true} {
		for _, every := range []int{1, 2, 1000, maxEvery - 1, maxEvery} {
			for often := 2; often <= 10; often++ {
				m := made(t, every, often, slaveOnly)
				check(t, m, api.Initializing, 0)
				m.Start(0)
				check(t, m, api.Listening, often*every)
			}
		}
	}
}

func TestNewRefuses(t *testing.T) {
	refused := func(every, often int) {
		for _, slaveOnly := range []bool{false, true} {
			if m, e := port.New(every, often, slaveOnly); m != nil || e != api.ErrArg {
				t.Errorf("P12.1: New(%d, %d, %v): %v %v", every, often, slaveOnly, m, e)
			}
		}
	}
	for _, every := range []int{math.MinInt, -maxEvery, -10, -1, 0, maxEvery + 1, 1 << 41, 1<<62 + 10, math.MaxInt} {
		for _, often := range []int{1, 2, 3, 10, 11} {
			refused(every, often)
		}
	}
	for _, often := range []int{math.MinInt, -3, -2, -1, 0, 1, 11, 12, 99, 1<<32 + 3, 1<<62 + 3, math.MaxInt} {
		for _, every := range []int{0, 1, 10, maxEvery, maxEvery + 1} {
			refused(every, often)
		}
	}
}

// TestApart has two machines that are made alike: what one does the other knows nothing of.
func TestApart(t *testing.T) {
	for state, slaveOnly := range both {
		m := machineIn(t, state, slaveOnly)
		other := machineIn(t, state, slaveOnly)
		m.Fault()
		m.Disable()
		check(t, m, api.Disabled, 0)
		check(t, other, state, untilOf(state))
	}
}
