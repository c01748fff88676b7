package inst_test

import (
	"testing"

	"citadel/api"
	"citadel/inst"
)

func TestThereAndBack(t *testing.T) {
	for _, r := range rows() {
		for _, w := range r.fills() {
			i, _ := inst.Decode(w)
			back, ok := inst.Encode(i)
			if !ok {
				t.Fatalf("P2.5: %08x is taken as %+v, which has no word", w, i)
			}
			if again, ok := inst.Decode(back); !ok || again != i {
				t.Fatalf("P2.5: Decode(Encode(%+v)) = %+v, %v", i, again, ok)
			}
			if twice, _ := inst.Encode(i); twice != back {
				t.Fatalf("R4: Encode(%+v) = %08x, then %08x", i, back, twice)
			}
			if w == r.plain(w) && r.name.Kind != api.KindFence && back != w {
				t.Fatalf("P2.5: %08x came back as %08x", w, back)
			}
		}
	}
}
