package stem_test

import (
	"encoding/json"
	"os"
	"os/exec"
	"path/filepath"
	"strings"
	"testing"
)

// oneSum: a package sha in which all bytes have one sum.
const oneSum = `package sha

import "lazaret/api"

func Sum([]byte) api.Sum { return api.Sum{7} }
`

// TestUnlikeBlocksOfOneSum: a leaf is what was laid there last, whatever its sum. No unlike blocks of one sum are known: so tests of this package are built once more, with sums that are all alike.
func TestUnlikeBlocksOfOneSum(t *testing.T) {
	t.Parallel()
	dir := t.TempDir()
	sums, err := filepath.Abs("../sha/sha.go")
	if err != nil {
		t.Fatal(err)
	}
	with, binary := filepath.Join(dir, "sha.go"), filepath.Join(dir, "stem.test")
	overlay, err := json.Marshal(map[string]map[string]string{"Replace": {sums: with}})
	if err != nil {
		t.Fatal(err)
	}
	for name, text := range map[string]string{with: oneSum, filepath.Join(dir, "overlay.json"): string(overlay)} {
		if err := os.WriteFile(name, []byte(text), 0o600); err != nil {
			t.Fatal(err)
		}
	}
	if out, err := exec.Command("go", "test", "-c", "-overlay", filepath.Join(dir, "overlay.json"), "-o", binary, ".").CombinedOutput(); err != nil {
		t.Skipf("no such build can be made here: %v\n%s", err, out)
	}
	out, err := exec.Command(binary, "-test.v", "-test.run", "^(TestOneLeaf|TestSizes|TestSideBySide|TestCopiesStay|TestLongWays)$").CombinedOutput()
	if err != nil || !strings.Contains(string(out), "--- PASS: TestLongWays") {
		t.Errorf("with sums that are all alike: %v\n%s", err, out)
	}
}
