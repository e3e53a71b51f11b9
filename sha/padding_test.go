package sha

import (
	"bytes"
	"testing"
)

// Counts of bytes whose bits don't fit 32 bits, without laying the bytes out.
func TestPaddingOfManyBytes(t *testing.T) {
	for _, x := range []struct {
		n     int
		count []byte
	}{
		{1<<29 - 1, []byte{0, 0, 0, 0, 0xff, 0xff, 0xff, 0xf8}},
		{1 << 29, []byte{0, 0, 0, 1, 0, 0, 0, 0}},
		{1<<31 - 1, []byte{0, 0, 0, 3, 0xff, 0xff, 0xff, 0xf8}},
	} {
		p := padding(x.n)
		if (x.n+len(p))%chunk != 0 || p[0] != 0x80 || !bytes.HasSuffix(p, x.count) {
			t.Errorf("%d bytes: %x", x.n, p)
		}
	}
}
