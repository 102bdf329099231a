package machine

import (
	"causeway/api"
	"causeway/wide"
)

// run is a program that runs.
type run struct {
	rows    []row
	program program
	call    api.Call
	host    Host
	stack   []api.Wide // the top is the last
	left    int        // of the gas
	next    int        // which instruction of the program's list
	answer  api.Wide   // what done took
}

// all does step after step, till done or an error ends it. Each step takes gas away, so that one of the two comes.
func (r *run) all() (api.Ran, api.Errno) {
	list := r.program.list
steps:
	for {
		if r.next == len(list) {
			return api.Ran{}, api.ErrMachineEnd
		}
		x := list[r.next]
		switch e := r.step(x); {
		case e != api.OK:
			return api.Ran{}, e
		case x.code == codeDone:
			break steps
		}
	}
	return api.Ran{Value: r.answer, Gas: r.call.Gas - r.left}, api.OK
}

// step pays for an instruction, makes sure of the stack, and does it: what is done can count on its numbers, and on room for what it leaves.
func (r *run) step(x instruction) api.Errno {
	w := r.rows[x.code]
	if w.gas > r.left {
		return api.ErrMachineGas
	}
	r.left -= w.gas
	takes, leaves := w.needs(x)
	if takes > len(r.stack) || len(r.stack)-takes+leaves > api.MaxStack {
		return api.ErrMachineStack
	}
	r.next++
	return w.do(r, x)
}

func (r *run) take() api.Wide {
	top := len(r.stack) - 1
	x := r.stack[top]
	r.stack = r.stack[:top]
	return x
}

func (r *run) takeTwo() (x, y api.Wide) {
	y = r.take()
	return r.take(), y
}

func (r *run) leave(x api.Wide) api.Errno {
	r.stack = append(r.stack, x)
	return api.OK
}

func (r *run) leaveCount(n int) api.Errno { return r.leave(wide.Of(uint64(n))) }

func (r *run) leaveWhether(is bool) api.Errno {
	if is {
		return r.leaveCount(1)
	}
	return r.leaveCount(0)
}

// leaveResult leaves what was reckoned, or gives up: which of wide's errors it was, the machine does not tell.
func (r *run) leaveResult(x api.Wide, e api.Errno) api.Errno {
	if e != api.OK {
		return api.ErrMachineNumber
	}
	return r.leave(x)
}

// leaveTold leaves what the host told, or gives up with the host's error.
func (r *run) leaveTold(x api.Wide, e api.Errno) api.Errno {
	if e != api.OK {
		return e
	}
	return r.leave(x)
}

func (r *run) goTo(place int) api.Errno {
	r.next = r.program.starts[place] - 1
	return api.OK
}

// tokenOf is a number as a token, and whether it is one.
func tokenOf(x api.Wide) (int, bool) {
	if wide.Cmp(x, wide.Of(api.MaxTokens)) >= 0 {
		return 0, false
	}
	return int(x[0]), true
}
