package port_test

import (
	"math"
	"testing"

	"horologe/api"
	"horologe/decide"
)

func TestTick(t *testing.T) {
	for state, slaveOnly := range both {
		m := machineIn(t, state, slaveOnly)
		if !listens(state) && state != api.PreMaster {
			for _, now := range []int{math.MinInt, -1, 0, 1, 1000, api.Most, math.MaxInt} {
				checkTick(t, m, now, 0)
				check(t, m, state, 0)
			}
			continue
		}
		until := untilOf(state)
		for _, now := range []int{math.MinInt, -1, 0, 1, until - 1} {
			checkTick(t, m, now, 0)
			check(t, m, state, until)
		}
		for _, now := range []int{until, until + 1, until + 1000, api.Most, math.MaxInt} {
			m := machineIn(t, state, slaveOnly)
			switch {
			case state == api.PreMaster:
				checkTick(t, m, now, 1)
				check(t, m, api.Master, 0)
			case slaveOnly:
				checkTick(t, m, now, 2)
				check(t, m, api.Listening, min(min(now, api.Most)+patience, api.Most))
			default:
				checkTick(t, m, now, 2)
				check(t, m, api.Master, 0)
			}
		}
	}
}

// TestTickAtZero has a port that waits up to 0: it waits all the same.
func TestTickAtZero(t *testing.T) {
	for _, now := range []int{math.MinInt, -1, 0, 1} {
		m := made(t, every, often, false)
		m.Start(0)
		m.Decide(decide.M1, 0, -9, false)
		check(t, m, api.PreMaster, 0)
		checkTick(t, m, now, 1)
		check(t, m, api.Master, 0)
		checkTick(t, m, now, 0)
	}
}

// TestTickAtMost has ports that wait up to Most: a time above it counts as Most, and is not before it.
func TestTickAtMost(t *testing.T) {
	for _, now := range []int{api.Most, api.Most + 1, math.MaxInt} {
		for _, slaveOnly := range []bool{false, true} {
			m := made(t, maxEvery, 10, slaveOnly)
			m.Start(math.MaxInt)
			checkTick(t, m, api.Most-1, 0)
			check(t, m, api.Listening, api.Most)
			checkTick(t, m, now, 2)
			if !slaveOnly {
				check(t, m, api.Master, 0)
				continue
			}
			check(t, m, api.Listening, api.Most)
			checkTick(t, m, now, 2)
		}
	}
}

// TestTickOnce tells of a change once alone.
func TestTickOnce(t *testing.T) {
	m := machineIn(t, api.PreMaster, false)
	checkTick(t, m, 121, 1)
	checkTick(t, m, 121, 0)
	checkTick(t, m, 10000, 0)
	check(t, m, api.Master, 0)

	m = machineIn(t, api.Slave, true)
	checkTick(t, m, 145, 2)
	checkTick(t, m, 145, 0)
	checkTick(t, m, 174, 0)
	checkTick(t, m, 175, 2)
	check(t, m, api.Listening, 205)
}
