package frame

import "testing"

func TestStepExamples(t *testing.T) {
	for _, c := range []struct{ x, v, want uint32 }{
		{0, 0, 0}, {0, 1, 668247172}, {5, 3, 4009516789},
	} {
		if got := step(c.x, c.v); got != c.want {
			t.Errorf("step(%d, %d) = %d, want %d", c.x, c.v, got, c.want)
		}
	}
}

func TestSumExamples(t *testing.T) {
	if got := sum(7, 1, 0, 0, 0); got != 2072195044 {
		t.Errorf("the sum by 7 of 1, 0, 0, 0 = %d, want 2072195044", got)
	}
	if got := sum(7); got != 7 {
		t.Errorf("the sum by 7 of nothing = %d, want 7", got)
	}
}

func TestNumberInFourBytes(t *testing.T) {
	got := AppendNumber(nil, 258)
	if string(got) != "\x00\x00\x01\x02" {
		t.Errorf("258 in four bytes = %x", got)
	}
	for _, n := range []uint32{0, 1, 255, 256, 1<<16 - 1, 1 << 16, 1 << 24, 1<<32 - 1, 0x12345678} {
		if back := Number(AppendNumber(nil, n)); back != n {
			t.Errorf("%d in four bytes and back = %d", n, back)
		}
	}
}
