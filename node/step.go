package node

import (
	"slices"

	"causeway/api"
	"causeway/exec"
	"causeway/store"
)

// step is what an entry did.
type step struct {
	receipt api.Receipt
	commit  api.Commit   // behind it
	back    []api.Change // what brings the store back: each New is what stood at its Key ahead of the entry
}

// turn lets other entries follow behind the first so many. If one of them is refused all is as it was.
func (n *Node) turn(left int, entries []api.Entry) api.Errno {
	n.takeBack(left)
	refused := n.executeAll(entries)
	if refused == api.OK {
		return api.OK
	}
	n.takeBack(left)
	were, e := n.box.Entries(left, n.box.Len())
	if e == api.OK {
		n.executeAll(were) // never refused: over the same store they were not
	}
	return refused
}

// executeAll does entries, one behind the other, up to the first one that is refused.
func (n *Node) executeAll(entries []api.Entry) api.Errno {
	for _, entry := range entries {
		if e := n.execute(entry); e != api.OK {
			return e
		}
	}
	return api.OK
}

// execute does the next entry, as exec.Run does; but what stood in the table is kept.
func (n *Node) execute(entry api.Entry) api.Errno {
	s, e := store.Over(n.table)
	if e != api.OK {
		return e
	}
	receipt, leaves, e := exec.Apply(s, n.Count(), entry)
	if e != api.OK {
		return e
	}
	changes := s.Changes()
	// Ahead of all that is laid, so that it can be taken back from wherever it ends.
	n.steps = append(n.steps, step{receipt: receipt, back: backOf(changes)})
	return n.lay(changes, leaves)
}

// lay lays what the last step changes and what leaves by it, and tells that step what is committed then.
func (n *Node) lay(changes []api.Change, leaves []api.Leaf) api.Errno {
	if e := n.table.Apply(changes...); e != api.OK {
		return e
	}
	for _, l := range leaves {
		if e := n.book.Put(l); e != api.OK {
			return e
		}
	}
	commit, e := exec.Commit(n.table)
	n.steps[n.Count()].commit = commit
	return e
}

// takeBack lets the first so many entries alone be executed.
func (n *Node) takeBack(left int) {
	undo(n.table, n.steps[left+1:])
	n.book.Cut(n.steps[left].commit.Leaves) // never refused: a book only grows from step to step
	n.steps = slices.Delete(n.steps, left+1, len(n.steps))
}

// undo brings a table back ahead of some steps, the last of which was done last in it.
func undo(t *store.Table, steps []step) {
	t.Apply(firstOfEach(steps)...) // never refused: all of it stood there
}

// firstOfEach is, of each key that some steps changed, what stood there ahead of all of them: that alone is to be laid, however often the key was changed.
func firstOfEach(steps []step) []api.Change {
	var firsts []api.Change
	met := map[string]struct{}{}
	for _, s := range steps {
		for _, c := range s.back {
			if _, is := met[c.Key]; !is {
				met[c.Key] = struct{}{}
				firsts = append(firsts, c)
			}
		}
	}
	return firsts
}

// backOf is what takes changes back.
func backOf(changes []api.Change) []api.Change {
	back := make([]api.Change, 0, len(changes))
	for _, c := range changes {
		back = append(back, api.Change{Key: c.Key, New: c.Old})
	}
	return back
}
