package machine

import (
	"causeway/api"
	"causeway/wide"
)

// What each instruction does, once its gas is paid and the stack is made sure of.

func (r *run) stop(instruction) api.Errno { return api.ErrMachineStop }

func (r *run) done(instruction) api.Errno {
	r.answer = r.take()
	return api.OK
}

func (r *run) push(x instruction) api.Errno { return r.leave(x.number) }

func (r *run) pop(instruction) api.Errno {
	r.take()
	return api.OK
}

func (r *run) dup(x instruction) api.Errno {
	return r.leave(r.stack[len(r.stack)-1-x.n])
}

func (r *run) swap(x instruction) api.Errno {
	top := len(r.stack) - 1
	r.stack[top], r.stack[top-x.n] = r.stack[top-x.n], r.stack[top]
	return api.OK
}

func (r *run) add(instruction) api.Errno { return r.leaveResult(wide.Add(r.takeTwo())) }
func (r *run) sub(instruction) api.Errno { return r.leaveResult(wide.Sub(r.takeTwo())) }
func (r *run) mul(instruction) api.Errno { return r.leaveResult(wide.Mul(r.takeTwo())) }

func (r *run) div(instruction) api.Errno {
	quotient, _, e := wide.Div(r.takeTwo())
	return r.leaveResult(quotient, e)
}

func (r *run) mod(instruction) api.Errno {
	_, rest, e := wide.Div(r.takeTwo())
	return r.leaveResult(rest, e)
}

func (r *run) less(instruction) api.Errno { return r.leaveWhether(wide.Cmp(r.takeTwo()) < 0) }
func (r *run) same(instruction) api.Errno { return r.leaveWhether(wide.Cmp(r.takeTwo()) == 0) }
func (r *run) not(instruction) api.Errno  { return r.leaveWhether(wide.IsZero(r.take())) }

func (r *run) jump(x instruction) api.Errno { return r.goTo(x.n) }

func (r *run) when(x instruction) api.Errno {
	if wide.IsZero(r.take()) {
		return api.OK
	}
	return r.goTo(x.n)
}

func (r *run) arg(x instruction) api.Errno {
	if x.n >= len(r.call.Args) {
		return r.leaveCount(0)
	}
	return r.leave(r.call.Args[x.n])
}

func (r *run) args(instruction) api.Errno   { return r.leaveCount(len(r.call.Args)) }
func (r *run) caller(instruction) api.Errno { return r.leave(numberOf(r.call.Caller[:])) }
func (r *run) self(instruction) api.Errno   { return r.leave(numberOf(r.call.Self[:])) }
func (r *run) token(instruction) api.Errno  { return r.leaveCount(r.call.Token) }
func (r *run) amount(instruction) api.Errno { return r.leave(r.call.Amount) }
func (r *run) time(instruction) api.Errno   { return r.leaveCount(r.call.Time) }
func (r *run) gas(instruction) api.Errno    { return r.leaveCount(r.left) }

func (r *run) load(instruction) api.Errno { return r.leaveTold(r.host.Load(r.take())) }
func (r *run) save(instruction) api.Errno { return r.host.Save(r.takeTwo()) }

func (r *run) have(instruction) api.Errno {
	t, who := r.takeTwo()
	token, ok := tokenOf(t)
	if !ok {
		return api.ErrMachineNumber
	}
	return r.leaveTold(r.host.Have(token, addressOf(who)))
}

func (r *run) send(instruction) api.Errno {
	amount := r.take()
	t, to := r.takeTwo()
	token, ok := tokenOf(t)
	if !ok {
		return api.ErrMachineNumber
	}
	return r.host.Send(token, addressOf(to), amount)
}
