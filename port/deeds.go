package port

import (
	"horologe/api"
	"horologe/decide"
)

// word is what a port is told along with a code.
type word struct {
	steps, now int
	same       bool
}

// deeds are what each code does.
func deeds() map[int]func(*Machine, word) {
	return map[int]func(*Machine, word){
		decide.M1: (*Machine).leadSoon,
		decide.M2: (*Machine).leadSoon,
		decide.M3: (*Machine).leadLater,
		decide.P1: (*Machine).pass,
		decide.P2: (*Machine).pass,
		decide.S1: (*Machine).follow,
	}
}

func (m *Machine) leadSoon(w word) { m.lead(w.now, 0) }

// leadLater waits longer, the farther away the grandmaster is: those that are nearer to it lead first.
func (m *Machine) leadLater(w word) {
	steps := min(max(w.steps, 0), api.MaxSteps)
	m.lead(w.now, (steps+1)*m.every)
}

func (m *Machine) lead(now, wait int) {
	switch {
	case m.state == api.Master || m.state == api.PreMaster:
	case m.slaveOnly:
		m.onlyListen(now)
	default:
		m.state, m.until = api.PreMaster, later(now, wait)
	}
}

func (m *Machine) pass(w word) {
	switch {
	case m.state == api.Passive:
	case m.slaveOnly:
		m.onlyListen(w.now)
	default:
		m.listenAs(api.Passive, w.now)
	}
}

func (m *Machine) follow(w word) {
	follows := m.state == api.Uncalibrated || m.state == api.Slave
	if follows && w.same {
		return
	}
	m.listenAs(api.Uncalibrated, w.now)
}

// onlyListen is for a port that may neither lead nor be passive.
func (m *Machine) onlyListen(now int) {
	if m.state != api.Listening {
		m.listenAs(api.Listening, now)
	}
}
