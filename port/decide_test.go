package port_test

import (
	"math"
	"testing"

	"horologe/api"
	"horologe/decide"
)

func codes() []int {
	return []int{decide.None, decide.M1, decide.M2, decide.M3, decide.S1, decide.P1, decide.P2}
}

// notCodes are no codes, some of which are one but for their higher bits.
func notCodes() []int {
	return []int{math.MinInt, math.MinInt + 4, -7, -4, -1, 7, 8, 9, 99, 256 + 1, 1<<16 + 5, 1 << 32, 1<<32 + 4, 1<<62 + 3, math.MaxInt}
}

func isOut(state int) bool {
	return state == api.Initializing || state == api.Faulty || state == api.Disabled
}

// decided is a state and a time that follow a decision.
type decided struct{ state, until int }

// wanted is what the chapter says of one Decide at 200, with 4 steps.
func wanted(code, state int, same, slaveOnly bool) decided {
	now, anew := decided{state, untilOf(state)}, 200+patience
	if isOut(state) {
		return now
	}
	leads := state == api.Master || state == api.PreMaster
	follows := state == api.Uncalibrated || state == api.Slave
	becomes := now
	switch {
	case (code == decide.M1 || code == decide.M2) && !leads:
		becomes = decided{api.PreMaster, 200}
	case code == decide.M3 && !leads:
		becomes = decided{api.PreMaster, 200 + 5*every}
	case (code == decide.P1 || code == decide.P2) && state != api.Passive:
		becomes = decided{api.Passive, anew}
	case code == decide.S1 && !(same && follows):
		return decided{api.Uncalibrated, anew}
	}
	switch {
	case becomes == now || !slaveOnly:
		return becomes
	case state == api.Listening:
		return now
	}
	return decided{api.Listening, anew}
}

func TestDecide(t *testing.T) {
	for _, code := range append(codes(), notCodes()...) {
		for state, slaveOnly := range both {
			for _, same := range []bool{false, true} {
				m := machineIn(t, state, slaveOnly)
				m.Decide(code, 4, 200, same)
				want := wanted(code, state, same, slaveOnly)
				if (decided{m.State(), m.Until()}) != want {
					t.Errorf("P12.3: Decide(%d, 4, 200, %v) in the state %d, slaveOnly %v: it is %d, till %d, not %v", code, same, state, slaveOnly, m.State(), m.Until(), want)
				}
			}
		}
	}
}

// TestDecideByHand says in full what some decisions come to, without a rule.
func TestDecideByHand(t *testing.T) {
	for _, x := range []struct {
		from            int
		slaveOnly, same bool
		code            int
		want            decided
	}{
		{api.Listening, false, false, decide.M1, decided{api.PreMaster, 200}},
		{api.Slave, false, true, decide.M2, decided{api.PreMaster, 200}},
		{api.Passive, false, false, decide.M3, decided{api.PreMaster, 250}},
		{api.PreMaster, false, false, decide.M1, decided{api.PreMaster, 121}},
		{api.Master, false, false, decide.M3, decided{api.Master, 0}},
		{api.Master, false, false, decide.P1, decided{api.Passive, 230}},
		{api.PreMaster, false, false, decide.P2, decided{api.Passive, 230}},
		{api.Passive, false, false, decide.P2, decided{api.Passive, 135}},
		{api.Master, false, true, decide.S1, decided{api.Uncalibrated, 230}},
		{api.Slave, false, true, decide.S1, decided{api.Slave, 145}},
		{api.Slave, false, false, decide.S1, decided{api.Uncalibrated, 230}},
		{api.Uncalibrated, false, true, decide.S1, decided{api.Uncalibrated, 140}},
		{api.Uncalibrated, false, false, decide.S1, decided{api.Uncalibrated, 230}},
		{api.Slave, false, false, decide.None, decided{api.Slave, 145}},
		{api.Listening, true, false, decide.M1, decided{api.Listening, 130}},
		{api.Listening, true, false, decide.P2, decided{api.Listening, 130}},
		{api.Listening, true, true, decide.S1, decided{api.Uncalibrated, 230}},
		{api.Slave, true, true, decide.M3, decided{api.Listening, 230}},
		{api.Uncalibrated, true, true, decide.P1, decided{api.Listening, 230}},
		{api.Slave, true, true, decide.S1, decided{api.Slave, 145}},
		{api.Initializing, false, false, decide.M1, decided{api.Initializing, 0}},
		{api.Faulty, false, false, decide.S1, decided{api.Faulty, 0}},
		{api.Disabled, true, false, decide.P1, decided{api.Disabled, 0}},
	} {
		m := machineIn(t, x.from, x.slaveOnly)
		m.Decide(x.code, 4, 200, x.same)
		if (decided{m.State(), m.Until()}) != x.want {
			t.Errorf("P12.3: %v: it is %d, till %d", x, m.State(), m.Until())
		}
	}
}

// TestDecideSteps bounds the steps; only M3 asks for them.
func TestDecideSteps(t *testing.T) {
	for _, x := range []struct{ steps, waits int }{
		{math.MinInt, 10}, {-256, 10}, {-2, 10}, {-1, 10}, {0, 10}, {1, 20}, {2, 30}, {254, 2550}, {255, 2560}, {256, 2560}, {1 << 32, 2560}, {1 << 62, 2560}, {math.MaxInt, 2560},
	} {
		for _, code := range codes() {
			m := machineIn(t, api.Listening, false)
			m.Decide(code, x.steps, 200, false)
			want := wanted(code, api.Listening, false, false)
			if code == decide.M3 {
				want.until = 200 + x.waits
			}
			if (decided{m.State(), m.Until()}) != want {
				t.Errorf("P12.3: Decide(%d, %d, 200, false): it is %d, till %d, not %v", code, x.steps, m.State(), m.Until(), want)
			}
		}
	}
	m := made(t, maxEvery, 10, false)
	m.Start(0)
	m.Decide(decide.M3, 255, 1, false)
	check(t, m, api.PreMaster, 256*maxEvery+1)
}

func TestDecideTimes(t *testing.T) {
	for _, x := range []struct{ code, now, state, until int }{
		{decide.M1, -5, api.PreMaster, 0},
		{decide.M2, math.MinInt, api.PreMaster, 0},
		{decide.M3, -5, api.PreMaster, 50},
		{decide.P1, -5, api.Passive, 30},
		{decide.S1, -5, api.Uncalibrated, 30},
		{decide.M1, api.Most, api.PreMaster, api.Most},
		{decide.M2, api.Most + 1, api.PreMaster, api.Most},
		{decide.M2, math.MaxInt, api.PreMaster, api.Most},
		{decide.M3, api.Most - 51, api.PreMaster, api.Most - 1},
		{decide.M3, api.Most - 50, api.PreMaster, api.Most},
		{decide.M3, api.Most - 49, api.PreMaster, api.Most},
		{decide.M3, math.MaxInt, api.PreMaster, api.Most},
		{decide.P2, api.Most - 30, api.Passive, api.Most},
		{decide.P2, math.MaxInt, api.Passive, api.Most},
		{decide.S1, api.Most - 31, api.Uncalibrated, api.Most - 1},
		{decide.S1, math.MaxInt, api.Uncalibrated, api.Most},
	} {
		m := machineIn(t, api.Listening, false)
		m.Decide(x.code, 4, x.now, false)
		if m.State() != x.state || m.Until() != x.until {
			t.Errorf("P12.3: Decide(%d, 4, %d, false): it is %d, till %d", x.code, x.now, m.State(), m.Until())
		}
	}
	for _, code := range []int{decide.M1, decide.M2, decide.M3, decide.P1, decide.P2} {
		m := machineIn(t, api.Slave, true)
		m.Decide(code, 4, math.MaxInt, true)
		check(t, m, api.Listening, api.Most)
		m = machineIn(t, api.Slave, true)
		m.Decide(code, 4, math.MinInt, true)
		check(t, m, api.Listening, patience)
	}
}
