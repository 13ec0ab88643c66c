package port_test

import (
	"math"
	"testing"

	"horologe/api"
	"horologe/port"
)

// change is a call that changes a state, and what becomes of which.
type change struct {
	name string
	call func(m *port.Machine) bool
	to   map[int]int
}

func changes() []change {
	return []change{
		{"Start", func(m *port.Machine) bool { return m.Start(7) }, map[int]int{api.Initializing: api.Listening}},
		{"Fault", (*port.Machine).Fault, map[int]int{
			api.Initializing: api.Faulty, api.Listening: api.Faulty, api.PreMaster: api.Faulty, api.Master: api.Faulty,
			api.Passive: api.Faulty, api.Uncalibrated: api.Faulty, api.Slave: api.Faulty,
		}},
		{"Clear", (*port.Machine).Clear, map[int]int{api.Faulty: api.Initializing}},
		{"Disable", (*port.Machine).Disable, map[int]int{
			api.Initializing: api.Disabled, api.Faulty: api.Disabled, api.Listening: api.Disabled, api.PreMaster: api.Disabled,
			api.Master: api.Disabled, api.Passive: api.Disabled, api.Uncalibrated: api.Disabled, api.Slave: api.Disabled,
		}},
		{"Enable", (*port.Machine).Enable, map[int]int{api.Disabled: api.Initializing}},
		{"Lock", (*port.Machine).Lock, map[int]int{api.Uncalibrated: api.Slave}},
		{"Unlock", (*port.Machine).Unlock, map[int]int{api.Slave: api.Uncalibrated}},
	}
}

// untilBehind is up to which time it waits behind a change from a state.
func untilBehind(name string, from int) int {
	switch name {
	case "Start":
		return 7 + patience
	case "Lock", "Unlock":
		return untilOf(from)
	}
	return 0
}

func TestChanges(t *testing.T) {
	for _, c := range changes() {
		for state, slaveOnly := range both {
			m := machineIn(t, state, slaveOnly)
			to, does := c.to[state]
			if told := c.call(m); told != does {
				t.Errorf("P12.2: %s in the state %d: %v", c.name, state, told)
			}
			until := untilBehind(c.name, state)
			if !does {
				to, until = state, untilOf(state)
			}
			if m.State() != to || m.Until() != until {
				t.Errorf("P12.2: %s in the state %d: it is %d, till %d; not %d, till %d", c.name, state, m.State(), m.Until(), to, until)
			}
		}
	}
}

// TestChangesAndTick asks what a change leaves of the waiting by the Tick that ends it.
func TestChangesAndTick(t *testing.T) {
	for _, c := range changes() {
		for state, slaveOnly := range both {
			m := machineIn(t, state, slaveOnly)
			if !c.call(m) {
				continue
			}
			to, until := m.State(), m.Until()
			if !listens(to) {
				checkTick(t, m, math.MaxInt, 0)
				check(t, m, to, 0)
				continue
			}
			checkTick(t, m, until-1, 0)
			check(t, m, to, until)
			checkTick(t, m, until, 2)
		}
	}
}

func TestStartTimes(t *testing.T) {
	for _, x := range []struct{ every, often, now, until int }{
		{10, 3, 0, 30},
		{10, 3, 1, 31},
		{10, 3, -1, 30},
		{10, 3, math.MinInt, 30},
		{1, 2, 1000, 1002},
		{7, 10, 1000, 1070},
		{maxEvery, 10, 0, 10 * maxEvery},
		{10, 3, api.Most - 31, api.Most - 1},
		{10, 3, api.Most - 30, api.Most},
		{10, 3, api.Most - 29, api.Most},
		{10, 3, api.Most, api.Most},
		{10, 3, api.Most + 1, api.Most},
		{maxEvery, 10, math.MaxInt, api.Most},
	} {
		for _, slaveOnly := range []bool{false, true} {
			m := made(t, x.every, x.often, slaveOnly)
			if !m.Start(x.now) || m.State() != api.Listening || m.Until() != x.until {
				t.Errorf("P12.2: New(%d, %d), Start(%d): %d, till %d", x.every, x.often, x.now, m.State(), m.Until())
			}
		}
	}
}

func TestHeard(t *testing.T) {
	for state, slaveOnly := range both {
		for _, x := range []struct{ now, until int }{
			{200, 230}, {130, 160}, {50, 80}, {0, 30}, {-1, 30}, {math.MinInt, 30},
			{api.Most - 31, api.Most - 1}, {api.Most - 30, api.Most}, {api.Most, api.Most}, {math.MaxInt, api.Most},
		} {
			m := machineIn(t, state, slaveOnly)
			m.Heard(x.now)
			until := x.until
			if !listens(state) {
				until = untilOf(state)
			}
			if m.State() != state || m.Until() != until {
				t.Errorf("P12.2: Heard(%d) in the state %d: it is %d, till %d", x.now, state, m.State(), m.Until())
			}
		}
	}
}

// TestRound goes from fault to fault: what it waited for before counts no more.
func TestRound(t *testing.T) {
	for _, slaveOnly := range []bool{false, true} {
		m := machineIn(t, api.Slave, slaveOnly)
		if !m.Fault() || m.Start(200) || !m.Clear() {
			t.Error("P12.2: Fault, Start, Clear")
		}
		checkTick(t, m, 1000, 0)
		check(t, m, api.Initializing, 0)
		if !m.Start(20) || m.Start(20) {
			t.Error("P12.2: Start again")
		}
		check(t, m, api.Listening, 50)
		if !m.Fault() || !m.Disable() || m.Clear() || !m.Enable() || m.Enable() {
			t.Error("P12.2: Fault, Disable, Clear, Enable")
		}
		check(t, m, api.Initializing, 0)
	}
}
