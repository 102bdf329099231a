package chain

import (
	"fmt"
	"testing"
)

// The story is worth its name: each kind is done there, and refused.
func TestStory_HasAllKinds(t *testing.T) {
	s := theStory()
	seen := map[string]int{}
	for i, b := range s.blocks {
		line := fmt.Sprint(i+1, " at ", b.Time, ":")
		for j, o := range b.Ops {
			r := s.results[i][j]
			line += fmt.Sprintf(" %d:%d", o.Kind, int(r.Code))
			seen[fmt.Sprint(o.Kind, " ", r.Code == 0)]++
			if len(r.Pays) > 0 {
				seen[fmt.Sprint("pay ", r.Pays[0].Why)]++
			}
		}
		t.Log(line)
	}
	for kind := 1; kind <= 13; kind++ {
		for _, done := range []bool{true, false} {
			if seen[fmt.Sprint(kind, " ", done)] == 0 {
				t.Errorf("kind %d: done %v did not come", kind, done)
			}
		}
	}
	for why := 1; why <= 3; why++ {
		if seen[fmt.Sprint("pay ", why)] == 0 {
			t.Errorf("nothing was paid for reason %d", why)
		}
	}
}
