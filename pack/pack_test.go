package pack_test

import (
	"encoding/binary"
	"strings"
	"testing"

	"lockgate/api"
	"lockgate/pack"
)

// zeros are n bytes 0.
func zeros(n int) string { return strings.Repeat("\x00", n) }

// mixed are n bytes that are not all alike, among them bytes 0.
func mixed(n int) string {
	b := make([]byte, n)
	for i := range b {
		b[i] = byte(i*7 + i/256)
	}
	return string(b)
}

// counted is s behind its length, made without the package.
func counted(s string) string {
	return string(binary.BigEndian.AppendUint16(nil, uint16(len(s)))) + s
}

func TestTwo(t *testing.T) {
	for n := range 1 << 16 {
		if got, want := pack.Two(uint16(n)), string([]byte{byte(n / 256), byte(n % 256)}); got != want {
			t.Fatalf("Two(%d): %x, want %x", n, got, want)
		}
	}
}

// numbers have a single bit, all bits up to one, or unlike bytes.
func numbers() []uint64 {
	l := []uint64{0, 258, 0x0102030405060708, 0xf1e2d3c4b5a69788, api.MaxEpoch}
	for i := range 64 {
		l = append(l, 1<<i, 1<<i-1, ^(uint64(1) << i))
	}
	return append(l, 1<<64-1)
}

func TestFourAndEight(t *testing.T) {
	for _, n := range numbers() {
		if got, want := pack.Eight(n), string(binary.BigEndian.AppendUint64(nil, n)); got != want {
			t.Errorf("Eight(%d): %x, want %x", n, got, want)
		}
		if got, want := pack.Four(uint32(n)), string(binary.BigEndian.AppendUint32(nil, uint32(n))); got != want {
			t.Errorf("Four(%d): %x, want %x", uint32(n), got, want)
		}
	}
	if got := pack.Four(258); got != "\x00\x00\x01\x02" {
		t.Errorf("Four(258): %x", got)
	}
}

func TestText(t *testing.T) {
	for _, n := range []int{0, 1, 2, 255, 256, 257, 510, 511, 512, 65534, 65535} {
		s := mixed(n)
		if got, e := pack.Text(s); got != counted(s) || e != api.OK {
			t.Errorf("Text of %d bytes: %d bytes, %d", n, len(got), e)
		}
	}
	for _, n := range []int{65536, 65537, 2 * 65536, 1 << 20} {
		if got, e := pack.Text(mixed(n)); got != "" || e != api.ErrSize {
			t.Errorf("Text of %d bytes: %d bytes, %d, want nothing, ErrSize", n, len(got), e)
		}
	}
	if got, e := pack.Text("ab"); got != "\x00\x02ab" || e != api.OK {
		t.Errorf("Text(ab): %x, %d", got, e)
	}
}

func TestFillAndOpen(t *testing.T) {
	for n := range 511 {
		for _, s := range []string{mixed(n), zeros(n), strings.Repeat("\xff", n)} {
			sector, e := pack.Fill(s)
			if want := counted(s) + zeros(510-n); sector != want || e != api.OK {
				t.Fatalf("Fill of %d bytes: %x, %d", n, sector, e)
			}
			if got, ok := pack.Open(sector); got != s || !ok {
				t.Fatalf("Open of Fill of %d bytes: %x, %v", n, got, ok)
			}
		}
	}
	if got, ok := pack.Open(zeros(512)); got != "" || !ok {
		t.Errorf("Open of bytes 0: %x, %v, want nothing, true", got, ok)
	}
}

func TestFillTooLong(t *testing.T) {
	for _, n := range []int{511, 512, 513, 65535, 65536, 65537, 65546, 1 << 20} {
		if got, e := pack.Fill(zeros(n)); got != "" || e != api.ErrSize {
			t.Errorf("Fill of %d bytes: %d bytes, %d, want nothing, ErrSize", n, len(got), e)
		}
	}
}

// notOpened fails if something is opened that is no sector of a text.
func notOpened(t *testing.T, what, sector string) {
	t.Helper()
	if got, ok := pack.Open(sector); got != "" || ok {
		t.Errorf("Open of %s: %d bytes, %v, want nothing, false", what, len(got), ok)
	}
}

func TestOpenWrongSize(t *testing.T) {
	for _, n := range []int{0, 1, 2, 3, 510, 511, 513, 514, 1024, 65537} {
		notOpened(t, "bytes 0, not 512 of them", zeros(n))
	}
	full, _ := pack.Fill(mixed(510))
	notOpened(t, "a sector cut short", full[:511])
	notOpened(t, "a sector with a byte behind", full+"\x00")
	notOpened(t, "a text of 510 bytes, cut short", counted(mixed(510))[:511])
	notOpened(t, "a text of 511 bytes", counted(mixed(511)))
}

func TestOpenWrongCount(t *testing.T) {
	for _, n := range []uint16{511, 512, 513, 1 << 15, 65535} {
		notOpened(t, "a count above 510", string(binary.BigEndian.AppendUint16(nil, n))+zeros(510))
	}
}

// A byte that is not 0 behind the text, wherever it stands, is no text's.
func TestOpenWrongFill(t *testing.T) {
	for _, n := range []int{0, 1, 100, 509} {
		sector, _ := pack.Fill(mixed(n))
		for i := n + 2; i < 512; i++ {
			for _, x := range []string{"\x01", "\x80", "\xff"} {
				notOpened(t, "a sector with a byte behind the text", sector[:i]+x+sector[i+1:])
			}
		}
	}
}

// What a sector's first bytes are changed to, it is the sector of what is opened, or of nothing.
func TestSectorOfOneText(t *testing.T) {
	made := map[string]string{}
	for n := range 600 {
		for _, rest := range []string{zeros(510), mixed(510), mixed(9) + zeros(501)} {
			sector := pack.Two(uint16(n)) + rest
			s, ok := pack.Open(sector)
			if want := n <= 510 && rest[min(n, 510):] == zeros(510-min(n, 510)); ok != want {
				t.Fatalf("Open of a sector with count %d: %v, want %v", n, ok, want)
			}
			if !ok {
				continue
			}
			if again, e := pack.Fill(s); again != sector || e != api.OK {
				t.Fatalf("count %d: Fill of what was opened is another sector", n)
			}
			if other, there := made[sector]; there && other != s {
				t.Fatalf("count %d: a sector of two texts", n)
			}
			made[sector] = s
		}
	}
}
