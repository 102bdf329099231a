package contract

import (
	"causeway/api"
	"causeway/inbox"
)

// parts is what the contract has. A nil one has nothing, of which every layer tells zero values.
func (c *Contract) parts() Contract {
	if c == nil {
		return Contract{}
	}
	return *c
}

// Config is its config.
func (c *Contract) Config() api.Config { return c.parts().config }

// Now is the time of its last operation.
func (c *Contract) Now() int { return c.parts().now }

// Held tells how much it holds of a token, without bonds.
func (c *Contract) Held(token int) api.Wide { return c.parts().vault.Held(token) }

// Locked tells how much is locked in bonds.
func (c *Contract) Locked() api.Wide { return c.parts().vault.Locked() }

// Listed tells whether a token is listed, and whether it is stopped.
func (c *Contract) Listed(token int) (bool, bool) { return c.parts().vault.Listed(token) }

// Paid tells whether a withdrawal was paid.
func (c *Contract) Paid(index int) bool { return c.parts().vault.Paid(index) }

// Confirmed is the commit that was confirmed last.
func (c *Contract) Confirmed() api.Commit { return c.parts().rungs.Confirmed() }

// Top is the commit that the next assertion goes on from.
func (c *Contract) Top() api.Commit { return c.parts().rungs.Top() }

// Pending are the pending assertions, in order.
func (c *Contract) Pending() []api.Pending { return c.parts().rungs.Pending() }

// Duels are the open duels, by the assertions' numbers.
func (c *Contract) Duels() []api.Duel { return c.parts().fights.views() }

// Inbox is a copy of its inbox.
func (c *Contract) Inbox() *inbox.Box { return c.parts().box.Copy() }
