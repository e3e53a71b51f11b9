package sha_test

import (
	"bytes"
	"encoding/hex"
	"slices"
	"strings"
	"testing"

	"lazaret/sha"
)

// pattern: n bytes that hang on n, so that no two lengths share a beginning.
func pattern(n int) []byte {
	b := make([]byte, n)
	for i := range b {
		b[i] = byte(7*i + n)
	}
	return b
}

// edges: no bytes at all, and counts around those where the padding takes another 64.
func edges() []int {
	return []int{0, 1, 2, 54, 55, 56, 57, 62, 63, 64, 65, 118, 119, 120, 121, 127, 128, 129, 183, 184, 185, 1000, 65537}
}

// initial: the numbers that the steps of a sum begin with.
func initial() [8]uint32 {
	return [8]uint32{0x6a09e667, 0xbb67ae85, 0x3c6ef372, 0xa54ff53a, 0x510e527f, 0x9b05688c, 0x1f83d9ab, 0x5be0cd19}
}

func sumText(b []byte) string {
	s := sha.Sum(b)
	return hex.EncodeToString(s[:])
}

func TestSumOfKnownTexts(t *testing.T) {
	for _, x := range []struct{ text, sum string }{
		{"", "e3b0c44298fc1c149afbf4c8996fb92427ae41e4649b934ca495991b7852b855"},
		{"abc", "ba7816bf8f01cfea414140de5dae2223b00361a396177a9cb410ff61f20015ad"},
		{"abcdbcdecdefdefgefghfghighijhijkijkljklmklmnlmnomnopnopq", "248d6a61d20638b8e5c026930c3e6039a33ce45964ff2167f6ecedd419db06c1"},
		{strings.Repeat("a", 1000000), "cdc76e5c9914fb9281a1c7e284d73e67f1809a48a497200e046d39ccc7112cd0"},
	} {
		if got := sumText([]byte(x.text)); got != x.sum {
			t.Errorf("%.20q (%d bytes): %s, not %s", x.text, len(x.text), got, x.sum)
		}
	}
	if got := sumText(nil); got != "e3b0c44298fc1c149afbf4c8996fb92427ae41e4649b934ca495991b7852b855" {
		t.Errorf("nil: %s", got)
	}
}

func TestSumAtEdges(t *testing.T) {
	for _, x := range []struct {
		n   int
		sum string
	}{
		{1, "4bf5122f344554c53bde2ebb8cd2b7e3d1600ad631c385a5d7cce23c7785459a"},
		{3, "6ab0dba1f4f1dfbb37b4f9eeb092c09fca4900ad32bdcd147d8dde35d6c87c35"},
		{54, "1ad616be707a2b269ecfe28bdea4a4284a4f78a221287d45b98004231f501c77"},
		{55, "81afe5b788dc2ce138ff83d9b20164db75a94d75d2b2432eea4a0ef605088c72"},
		{56, "2aba54f0ac632420a2b502431408866e40e1d5e430df4cd822642c78ab2eb9c1"},
		{57, "903284efbf9100e8ba1614ec65eacacad125e03f857cae7acbf8b73b23e0fdfe"},
		{63, "733d3d4ee79ee67145bf73da13588f6f235d37414fc64b14a2f00f1762792f5e"},
		{64, "79322907b3e9d013d7dc2c2f256674dbf733045cde01df3539271c6f5605feb8"},
		{65, "d85c007c6eb440f085afa2b84f6f2bce4658b240e9f62cb1364bf0485a57e720"},
		{118, "718ab275033c0e8d8ff4d0d773ea1945bf58fad732456602e6cda1a9036b5172"},
		{119, "6c87eedf096b345de205b702e5223b73b447a3207791ded3ea007ba15ed6736e"},
		{120, "42500cf6a1e3936d6b9e0bcfe296d654b63255e525487d3634d0b15fde591c4d"},
		{121, "bfee8850f7dfa42874071a0040ef89a5ac8d70c919224c440bdb63adb65d35e8"},
		{127, "68f6ff710276900c0ffbbc57426f67e00c2e01f0750c7edc25ac06b8ce7a8095"},
		{128, "489d55fea9a73af36b6dd0be7b4117d8e5683386d39544e8a44c99a87f368707"},
		{129, "4e1556b2e9a50a3cc9478f3254727b01065f9ac5d2c3a8b4cd538ae7240bb87d"},
		{1000, "6b0df76627243d095b0c4400cb658b7e804dd03461cc03aee8fc8fe0bcada168"},
		{65537, "49eb2b54b404f188a584dee823b4d10b14fd5a59878399e59421e542a268d339"},
	} {
		if got := sumText(pattern(x.n)); got != x.sum {
			t.Errorf("%d bytes: %s, not %s", x.n, got, x.sum)
		}
	}
}

// All lengths from 0 to 512, told by the sum of their sums.
func TestSumOfAllLengths(t *testing.T) {
	var all []byte
	for n := range 513 {
		s := sha.Sum(pattern(n))
		all = append(all, s[:]...)
	}
	if got := sumText(all); got != "45100f20b7496be090e8a79d8e063977bd5544c103d8f6606a6cca07231008a7" {
		t.Errorf("%s", got)
	}
}

func TestSumIsStepsOverPaddedBytes(t *testing.T) {
	for _, n := range edges() {
		b := pattern(n)
		h := initial()
		for part := range slices.Chunk(sha.Pad(b), 64) {
			h = sha.Step(h, [64]byte(part))
		}
		var want []byte
		for _, x := range h {
			want = append(want, byte(x>>24), byte(x>>16), byte(x>>8), byte(x))
		}
		if s := sha.Sum(b); !bytes.Equal(s[:], want) {
			t.Errorf("%d bytes: %x, not %x", n, s, want)
		}
	}
}

func TestStep(t *testing.T) {
	const most = 1<<32 - 1
	var mixed, abc [64]byte
	for i := range mixed {
		mixed[i] = byte(37*i + 11)
	}
	copy(abc[:], "abc\x80")
	abc[63] = 24
	for _, x := range []struct {
		h     [8]uint32
		block [64]byte
		want  [8]uint32
	}{
		{[8]uint32{}, [64]byte{},
			[8]uint32{0x7ca51614, 0x425c3ba8, 0xce54dd2f, 0xc2020ae7, 0xb6e574d1, 0x98136d0f, 0xae7e26cc, 0xbf0be7a6}},
		{[8]uint32{most, most, most, most, most, most, most, most}, [64]byte(bytes.Repeat([]byte{255}, 64)),
			[8]uint32{0x0598127a, 0xaf11706e, 0x77401fff, 0xd730c549, 0x0b84c867, 0xa98c6ca3, 0xd7f3c0f9, 0x06a78b79}},
		{[8]uint32{0x01020304, 0x80000000, most, 0, 0x7fffffff, 0x12345678, 0xdeadbeef, 5}, mixed,
			[8]uint32{0xe7ac0a51, 0x867a6e69, 0xb848c376, 0xdfb3bdfb, 0x7ef1956e, 0x551a39b2, 0x27dd190c, 0xadb9e40e}},
		{initial(), abc,
			[8]uint32{0xba7816bf, 0x8f01cfea, 0x414140de, 0x5dae2223, 0xb00361a3, 0x96177a9c, 0xb410ff61, 0xf20015ad}},
	} {
		if got := sha.Step(x.h, x.block); got != x.want {
			t.Errorf("%x over %x: %x, not %x", x.h, x.block, got, x.want)
		}
	}
}

// padded: the padded bytes of b, one byte laid behind the other as the document's words go.
func padded(b []byte) []byte {
	p := append(bytes.Clone(b), 0x80)
	for len(p)%64 != 56 {
		p = append(p, 0)
	}
	for shift := 56; shift >= 0; shift -= 8 {
		p = append(p, byte(uint64(8*len(b))>>shift))
	}
	return p
}

func TestPad(t *testing.T) {
	lengths := edges()
	for n := range 300 {
		lengths = append(lengths, n)
	}
	for _, n := range lengths {
		b := pattern(n)
		got := sha.Pad(b)
		if !bytes.Equal(got, padded(b)) {
			t.Errorf("%d bytes: %x", n, got)
		}
		if !bytes.HasPrefix(got, b) || len(got)%64 != 0 {
			t.Errorf("%d bytes: %d padded ones, or another beginning", n, len(got))
		}
	}
	if got := sha.Pad(nil); !bytes.Equal(got, padded(nil)) {
		t.Errorf("nil: %x", got)
	}
}

func TestPadTakesAnother64(t *testing.T) {
	for _, x := range []struct{ n, padded int }{
		{0, 64}, {55, 64}, {56, 128}, {63, 128}, {64, 128}, {119, 128}, {120, 192}, {128, 192}, {183, 192}, {184, 256},
	} {
		if got := len(sha.Pad(pattern(x.n))); got != x.padded {
			t.Errorf("%d bytes: %d padded ones, not %d", x.n, got, x.padded)
		}
	}
}

// What is handed in stays, and so does the spare room behind it.
func TestArgumentsStay(t *testing.T) {
	for _, n := range edges() {
		room := pattern(n + 200)
		before := bytes.Clone(room)
		sha.Pad(room[:n])
		sha.Sum(room[:n])
		if !bytes.Equal(room, before) {
			t.Errorf("%d bytes: they, or those behind them, are other ones", n)
		}
	}
	h, block := initial(), [64]byte{1, 2, 3}
	sha.Step(h, block)
	if h != initial() || block != [64]byte{1, 2, 3} {
		t.Error("step: other numbers or bytes")
	}
}

// What is answered is new memory, so that neither side sees what the other one does with its own.
func TestPadSharesNothing(t *testing.T) {
	for _, n := range edges() {
		room := pattern(n + 200)
		before := bytes.Clone(room)
		first, second := sha.Pad(room[:n]), sha.Pad(room[:n])
		want := bytes.Clone(second)
		for i := range first[:cap(first)] {
			first[:cap(first)][i] ^= 0xff
		}
		if !bytes.Equal(room, before) || !bytes.Equal(second, want) {
			t.Errorf("%d bytes: a change of the answer is seen elsewhere", n)
		}
		for i := range room {
			room[i] ^= 0xff
		}
		if !bytes.Equal(second, want) {
			t.Errorf("%d bytes: a change of the argument is seen in the answer", n)
		}
	}
}

// An answer hangs on the arguments alone, whatever was asked ahead of it.
func TestNothingIsKept(t *testing.T) {
	b, block := pattern(77), [64]byte(pattern(64))
	sum, pad, step := sha.Sum(b), sha.Pad(b), sha.Step(initial(), block)
	for n := range 130 {
		sha.Sum(pattern(n))
		sha.Pad(pattern(n))
		sha.Step([8]uint32{uint32(n)}, [64]byte{byte(n)})
		if sha.Sum(b) != sum || !bytes.Equal(sha.Pad(b), pad) || sha.Step(initial(), block) != step {
			t.Fatalf("behind %d bytes: another answer", n)
		}
	}
}
