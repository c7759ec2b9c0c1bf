package addr

import (
	"fmt"
	"math"
	"regexp"
	"strconv"
	"strings"
	"testing"

	"lodger/api"
)

// edges are the bytes at which a number gets a digit more, or ends, and some between.
var edges = []byte{0, 1, 9, 10, 11, 42, 99, 100, 127, 128, 199, 200, 254, 255}

// addresses are those that the tests go through: each byte at each edge, with the others
// at each; the ends; single bits, and their complements; some by a fixed rule.
func addresses() []uint32 {
	l := []uint32{0, 1, 0x01020304, 0x0a000001, 0x0a000100, 0x7fffffff, 0x80000000, math.MaxUint32 - 1, math.MaxUint32}
	for _, a := range edges {
		for _, b := range edges {
			for _, c := range edges {
				for _, d := range edges {
					l = append(l, uint32(a)<<24|uint32(b)<<16|uint32(c)<<8|uint32(d))
				}
			}
		}
	}
	for i := range 32 {
		l = append(l, 1<<i, ^uint32(1<<i))
	}
	w := uint32(7)
	for range 20000 {
		w = w*1664525 + 1013904223
		l = append(l, w^w>>13)
	}
	return l
}

// written is an address' text by the chapter's words.
func written(a uint32) string {
	return fmt.Sprintf("%d.%d.%d.%d", a>>24, a>>16&255, a>>8&255, a&255)
}

// number is a byte's digits, without a 0 ahead of others.
const number = `(0|[1-9][0-9]?|1[0-9][0-9]|2[0-4][0-9]|25[0-5])`

var (
	addressForm = regexp.MustCompile(`\A` + number + `\.` + number + `\.` + number + `\.` + number + `\z`)
	blockForm   = regexp.MustCompile(`\A(.*)/(1[6-9]|2[0-9]|3[0-2])\z`)
)

// meant is what Parse must answer, by the form of an address' text.
func meant(s string) (uint32, api.Errno) {
	m := addressForm.FindStringSubmatch(s)
	if m == nil {
		return 0, api.ErrForm
	}
	a := uint32(0)
	for _, digits := range m[1:] {
		n, _ := strconv.ParseUint(digits, 10, 8)
		a = a*256 + uint32(n)
	}
	return a, api.OK
}

// meantBlock is what ParseBlock must answer, by the form of a block's text.
func meantBlock(s string) (api.Block, api.Errno) {
	m := blockForm.FindStringSubmatch(s)
	if m == nil {
		return api.Block{}, api.ErrForm
	}
	a, e := meant(m[1])
	n, _ := strconv.Atoi(m[2])
	if e != api.OK || uint64(a)%(uint64(1)<<(32-n)) != 0 {
		return api.Block{}, api.ErrForm
	}
	return api.Block{Base: a, Prefix: n}, api.OK
}

// look holds Parse and ParseBlock of one text against what is meant. It tells whether s
// is an address' text, or a block's.
func look(t *testing.T, s string) (bool, bool) {
	t.Helper()
	a, e := Parse(s)
	if wa, we := meant(s); a != wa || e != we {
		t.Errorf("Parse(%q): %#x, %d; not %#x, %d", s, a, e, wa, we)
	}
	b, f := ParseBlock(s)
	if wb, we := meantBlock(s); b != wb || f != we {
		t.Errorf("ParseBlock(%q): %v, %d; not %v, %d", s, b, f, wb, we)
	}
	return e == api.OK, f == api.OK
}

// bent are the texts that are s with one byte left out, doubled, put in, or another one;
// or cut off at either end.
func bent(s string) []string {
	l := []string{s + s, s + "." + s, s + "/" + s}
	for i := range len(s) + 1 {
		l = append(l, s[:i], s[i:])
		for _, c := range []string{"0", "1", "2", "5", "6", "9", ".", "/", " ", "+", "-", "_", ":", ",", "a", "x", "\n", "\x00", "\xff", "٣", "１"} {
			l = append(l, s[:i]+c+s[i:])
			if i < len(s) {
				l = append(l, s[:i]+c+s[i+1:])
			}
		}
		if i < len(s) {
			l = append(l, s[:i]+s[i+1:], s[:i+1]+s[i:])
		}
	}
	return l
}

func TestTextAndParseByHand(t *testing.T) { // P4.1
	for _, x := range []struct {
		a uint32
		s string
	}{
		{0, "0.0.0.0"}, {math.MaxUint32, "255.255.255.255"}, {0x01020304, "1.2.3.4"},
		{0x0a000001, "10.0.0.1"}, {0x0a000100, "10.0.1.0"}, {0x090a6364, "9.10.99.100"},
		{0x64630a09, "100.99.10.9"}, {0xff000000, "255.0.0.0"}, {0x00ff0000, "0.255.0.0"},
		{0x0000ff00, "0.0.255.0"}, {0x000000ff, "0.0.0.255"}, {0xc0a80001, "192.168.0.1"},
	} {
		if s := Text(x.a); s != x.s {
			t.Errorf("Text(%#x): %q", x.a, s)
		}
		if a, e := Parse(x.s); a != x.a || e != api.OK {
			t.Errorf("Parse(%q): %#x, %d", x.s, a, e)
		}
	}
}

func TestTextOfManyAddresses(t *testing.T) { // P4.1
	for _, a := range addresses() {
		if s := Text(a); s != written(a) {
			t.Fatalf("Text(%#x): %q", a, s)
		}
	}
}

func TestParseOfManyAddresses(t *testing.T) { // P4.1
	for _, a := range addresses() {
		if got, e := Parse(written(a)); got != a || e != api.OK {
			t.Fatalf("Parse(%q): %#x, %d", written(a), got, e)
		}
	}
}

func TestParseOfTextsThatAreNones(t *testing.T) { // P4.1
	for _, s := range []string{
		"", ".", "..", "...", "....", "0", "1.2", "1.2.3", "1.2.3.4.5", "0.0.0.0.0", "10", "167772161", "0x0a000001",
		"256.0.0.0", "0.256.0.0", "0.0.256.0", "0.0.0.256", "257.0.0.1", "300.1.1.1", "999.0.0.0", "1000.0.0.0", "512.0.0.0",
		"010.0.0.1", "00.0.0.0", "0.00.0.0", "0.0.00.0", "0.0.0.00", "000.0.0.0", "1.2.3.04", "1.02.3.4", "0255.0.0.0", "0377.0.0.1", "0x1.0.0.0",
		".1.2.3.4", "1.2.3.4.", "1..2.3.4", "1.2.3..4", "1.2.3.", ".1.2.3", "1.2..4", "..1.2", "1.2..",
		" 1.2.3.4", "1.2.3.4 ", "1. 2.3.4", "1.2.3 .4", "\t1.2.3.4", "1.2.3.4\n", "\n1.2.3.4", "1.2.3.4\r\n",
		"+1.2.3.4", "-1.2.3.4", "1.2.3.+4", "1.2.3.-4", "1.2.3.-0", "-0.0.0.0",
		"a.b.c.d", "a.2.3.4", "1.2.3.f", "1.2.3.4a", "1e1.0.0.0", "1_0.0.0.0", "1.2.3.4\x00", "\x001.2.3.4", "1.2.3.4\xff",
		"1,2,3,4", "1,2.3.4", "1.2.3/4", "1:2:3:4", "::1", "::ffff:1.2.3.4", "[1.2.3.4]", "1.2.3.4:80", "1.2.3.4%eth0",
		"١.٢.٣.٤", "１.2.3.4", "1.2.3.４", "1。2。3。4", "1.2.3.²",
		"10.0.1.0/24", "1.2.3.4/32", "0.0.0.0/16", "1.2.3.4/",
		"99999999999999999999.0.0.0", "18446744073709551616.0.0.0", "4294967296.0.0.0", "0.0.0.4294967297",
	} {
		if a, e := Parse(s); a != 0 || e != api.ErrForm {
			t.Errorf("Parse(%q): %#x, %d", s, a, e)
		}
		look(t, s)
	}
}

// Each number from 0 to 1100, and some at which a word wraps round, at each of the four
// places, with up to three zeros ahead of it.
func TestParseOfEachNumber(t *testing.T) { // P4.1
	var numbers []string
	for n := range 1101 {
		numbers = append(numbers, strconv.Itoa(n))
	}
	for _, n := range []uint64{1 << 16, 1<<16 + 1, 1 << 31, 1 << 32, 1<<32 + 255, 1 << 63, math.MaxUint64} {
		numbers = append(numbers, strconv.FormatUint(n, 10))
	}
	right := 0
	for _, n := range numbers {
		for zeros := range 4 {
			for at := range 4 {
				parts := []string{"1", "20", "0", "255"}
				parts[at] = strings.Repeat("0", zeros) + n
				if is, _ := look(t, strings.Join(parts, ".")); is {
					right++
				}
			}
		}
	}
	if right != 4*256 {
		t.Errorf("%d of them are addresses' texts, not %d", right, 4*256)
	}
}

func TestTextsWithOneByteAmiss(t *testing.T) { // P4.1, P4.2
	for _, s := range []string{
		"0.0.0.0", "1.2.3.4", "10.0.0.1", "25.9.99.100", "255.255.255.255", "192.168.10.26",
		"0.0.0.0/16", "10.0.1.0/24", "1.2.3.4/32", "255.255.255.254/31", "255.255.0.0/16", "10.20.128.0/17", "10.20.30.40/29",
	} {
		look(t, s)
		for _, x := range bent(s) {
			look(t, x)
		}
	}
}

func TestEachShortText(t *testing.T) { // P4.1
	const letters = "02."
	texts, right := []string{""}, 0
	for range 9 {
		var longer []string
		for _, s := range texts {
			for _, c := range letters {
				longer = append(longer, s+string(c))
			}
		}
		for _, s := range longer {
			if is, _ := look(t, s); is {
				right++
			}
		}
		texts = longer
	}
	// Each number has one digit (0, 2), two (20, 22) or three (200, 202, 220, 222): the
	// four of them have 4 digits (16 ways), 5 (4*2*8) or 6 (4*4*8 + 6*2*2*4).
	if want := 16 + 64 + 128 + 96; right != want {
		t.Errorf("%d of them are addresses' texts, not %d", right, want)
	}
}

func TestLongTextsAreNones(t *testing.T) { // P4.1, P4.2
	const many = 1 << 20
	for _, s := range []string{
		strings.Repeat("0", many), strings.Repeat("9", many), strings.Repeat(".", many), strings.Repeat("1.", many), strings.Repeat("/", many),
		strings.Repeat("0", many) + "1.2.3.4", "1.2.3." + strings.Repeat("0", many) + "4", "1.2.3.4" + strings.Repeat(" ", many),
		"1.2.3.4/" + strings.Repeat("0", many) + "32", "1.2.3.4/" + strings.Repeat("9", many), "1.2.3.4/32" + strings.Repeat("0", many),
	} {
		if a, e := Parse(s); a != 0 || e != api.ErrForm {
			t.Errorf("Parse of %.9q..: %#x, %d", s, a, e)
		}
		if b, e := ParseBlock(s); b != (api.Block{}) || e != api.ErrForm {
			t.Errorf("ParseBlock of %.9q..: %v, %d", s, b, e)
		}
	}
}

// prefixes are those that may be, those beside them, and some far off.
func prefixes() []int {
	l := []int{math.MinInt, math.MinInt32, -64, -33, -32, -16, -1, 0, 1, 8, 14, 15, 33, 34, 48, 63, 64, 65, 256 + 24, 1 << 32, 1<<32 + 24, math.MaxInt}
	for p := 16; p <= 32; p++ {
		l = append(l, p)
	}
	return l
}

func TestMayByHand(t *testing.T) { // P4.1
	for _, x := range []struct {
		base   uint32
		prefix int
		want   bool
	}{
		{0x0a000100, 24, true}, {0x0a000101, 24, false}, {0x0a000180, 24, false}, {0x0a000100, 23, false},
		{0, 0, false}, {0, -1, false}, {0, 15, false}, {0, 16, true}, {0, 31, true}, {0, 32, true}, {0, 33, false}, {0, 64, false},
		{0x0a010000, 16, true}, {0x0a010000, 15, false}, {0x0a008000, 16, false}, {0x0a008000, 17, true}, {0x0a000001, 16, false},
		{math.MaxUint32, 32, true}, {math.MaxUint32, 31, false}, {math.MaxUint32 - 1, 31, true}, {math.MaxUint32, 33, false},
		{1, 32, true}, {1, 31, false}, {2, 31, true}, {2, 30, false}, {0x80000000, 16, true}, {0xffff0000, 16, true},
	} {
		if got := May(api.Block{Base: x.base, Prefix: x.prefix}); got != x.want {
			t.Errorf("May(%#x, %d): %v", x.base, x.prefix, got)
		}
	}
	if May(api.Block{}) {
		t.Error("a zero block may be")
	}
}

// With one bit of the Base set alone, or all that the prefix has and one more.
func TestMayBitByBit(t *testing.T) { // P4.1
	for _, p := range prefixes() {
		is := p >= 16 && p <= 32
		if May(api.Block{Prefix: p}) != is {
			t.Errorf("May(0, %d): not %v", p, is)
		}
		for bit := range 32 {
			want := is && bit >= 32-p
			if b := (api.Block{Base: 1 << bit, Prefix: p}); May(b) != want {
				t.Errorf("May(%#x, %d): not %v", b.Base, p, want)
			}
			if !is {
				continue
			}
			high := uint32(uint64(math.MaxUint32) << (32 - p))
			if b := (api.Block{Base: high | 1<<bit, Prefix: p}); May(b) != want {
				t.Errorf("May(%#x, %d): not %v", b.Base, p, want)
			}
		}
	}
}

func TestBlocksByHand(t *testing.T) { // P4.2, the chapter's examples among them
	for _, x := range []struct {
		b api.Block
		s string
	}{
		{api.Block{Base: 0x0a000100, Prefix: 24}, "10.0.1.0/24"}, {api.Block{Base: 0, Prefix: 16}, "0.0.0.0/16"},
		{api.Block{Base: 0, Prefix: 32}, "0.0.0.0/32"}, {api.Block{Base: math.MaxUint32, Prefix: 32}, "255.255.255.255/32"},
		{api.Block{Base: math.MaxUint32 - 1, Prefix: 31}, "255.255.255.254/31"}, {api.Block{Base: 0xffff0000, Prefix: 16}, "255.255.0.0/16"},
		{api.Block{Base: 0x0a000000, Prefix: 30}, "10.0.0.0/30"}, {api.Block{Base: 0x0a008000, Prefix: 17}, "10.0.128.0/17"},
	} {
		if s, e := BlockText(x.b); s != x.s || e != api.OK {
			t.Errorf("BlockText(%v): %q, %d", x.b, s, e)
		}
		if b, e := ParseBlock(x.s); b != x.b || e != api.OK {
			t.Errorf("ParseBlock(%q): %v, %d", x.s, b, e)
		}
	}
	if b, e := ParseBlock("10.0.1.1/24"); b != (api.Block{}) || e != api.ErrForm {
		t.Error("10.0.1.1/24", b, e)
	}
}

func TestBlockTextOfBlocksThatMayNotBe(t *testing.T) { // P4.2
	for _, p := range prefixes() {
		for _, base := range []uint32{0, 1, 2, 0x8000, 0x4000, 0x0a000001, 0x0a000100, 0x80000000, math.MaxUint32 - 1, math.MaxUint32} {
			b := api.Block{Base: base, Prefix: p}
			want, err := "", api.ErrForm
			if p >= 16 && p <= 32 && uint64(base)%(uint64(1)<<(32-p)) == 0 {
				want, err = fmt.Sprintf("%s/%d", written(base), p), api.OK
			}
			if s, e := BlockText(b); s != want || e != err {
				t.Errorf("BlockText(%v): %q, %d", b, s, e)
			}
		}
	}
}

func TestParseBlockOfTextsThatAreNones(t *testing.T) { // P4.2
	for _, s := range []string{
		"", "/", "//", "24", "/24", "10.0.1.0", "1.2.3.4", "0.0.0.0", "10.0.1.0/", "10.0.1.0//24", "10.0.1.0/24/", "10.0.1.0/24/24", "/10.0.1.0/24", "10.0.1.0/24/32",
		"10.0.0.0/-1", "10.0.0.0/0", "0.0.0.0/0", "0.0.0.0/1", "0.0.0.0/8", "0.0.0.0/9", "0.0.0.0/10", "0.0.0.0/15", "0.0.0.0/33", "0.0.0.0/34", "0.0.0.0/64", "0.0.0.0/99",
		"10.0.1.0/024", "10.0.1.0/0024", "10.0.1.0/00", "10.0.1.0/016", "10.0.1.0/+24", "10.0.1.0/-24", "10.0.1.0/ 24", "10.0.1.0/24 ", " 10.0.1.0/24", "10.0.1.0 /24", "10.0.1.0/2 4",
		"10.0.1.0/240", "10.0.1.0/124", "10.0.1.0/280", "10.0.1.0/320", "10.0.1.0/0x18", "10.0.1.0/0b11000", "10.0.1.0/2_4", "10.0.1.0/24.0", "10.0.1.0/2e1", "10.0.1.0/x", "10.0.1.0/24x",
		"10.0.1.0/4294967320", "10.0.1.0/18446744073709551640", "10.0.1.0/99999999999999999999999", "10.0.1.0/٢٤", "10.0.1.0/２４", "10.0.1.0/24\n", "10.0.1.0/24\x00", "10.0.1.0/255.255.255.0",
		"10.0.1.1/24", "10.0.1.128/24", "10.0.1.0/23", "10.0.1.0/16", "10.0.0.1/31", "10.0.0.2/30", "10.0.128.0/16", "0.0.0.1/16", "255.255.255.255/31",
		"10.0.1/24", "10.0.1.0.0/24", "10.0.1.256/24", "010.0.1.0/24", "10.0.01.0/24", "10.0.1.00/24", "10.0..0/24", "10.0.1.0./24", ".10.0.1.0/24", "a.0.1.0/24", "256.0.0.0/24", "10.0.1.0\\24", "10.0.1.0:24",
		"24/10.0.1.0", "::/16", "::ffff:10.0.1.0/24",
	} {
		if b, e := ParseBlock(s); b != (api.Block{}) || e != api.ErrForm {
			t.Errorf("ParseBlock(%q): %v, %d", s, b, e)
		}
		look(t, s)
	}
}

// Each prefix from 0 to 340, with up to two zeros ahead of it, behind some addresses.
func TestParseBlockOfEachPrefix(t *testing.T) { // P4.2
	right := 0
	for n := range 341 {
		for zeros := range 3 {
			for _, base := range []string{"0.0.0.0", "10.1.0.0", "10.1.128.0", "10.1.2.4", "255.255.255.255"} {
				if _, is := look(t, base+"/"+strings.Repeat("0", zeros)+strconv.Itoa(n)); is {
					right++
				}
			}
		}
	}
	// 16 to 32; 16 to 32; 17 to 32; 30 to 32; 32.
	if want := 17 + 17 + 16 + 3 + 1; right != want {
		t.Errorf("%d of them are blocks' texts, not %d", right, want)
	}
}

func TestAddressesAreReadAsTheyWere(t *testing.T) { // P4.3
	for _, a := range addresses() {
		s := Text(a)
		if got, e := Parse(s); got != a || e != api.OK {
			t.Fatalf("%#x is %q, which is read as %#x, %d", a, s, got, e)
		}
		if b, e := ParseBlock(s); b != (api.Block{}) || e != api.ErrForm {
			t.Fatalf("%q is read as a block: %v, %d", s, b, e)
		}
	}
}

func TestBlocksAreReadAsTheyWere(t *testing.T) { // P4.3
	for i, a := range addresses() {
		p := 16 + i%17
		for _, b := range []api.Block{{Base: a, Prefix: p}, {Base: a >> (32 - p) << (32 - p), Prefix: p}, {Base: a, Prefix: 32}} {
			s, e := BlockText(b)
			if (e == api.OK) != May(b) {
				t.Fatalf("%v: %q, %d", b, s, e)
			}
			if e != api.OK {
				continue
			}
			if got, e := ParseBlock(s); got != b || e != api.OK {
				t.Fatalf("%v is %q, which is read as %v, %d", b, s, got, e)
			}
			if a, e := Parse(s); a != 0 || e != api.ErrForm {
				t.Fatalf("%q is read as an address: %#x, %d", s, a, e)
			}
		}
	}
}

func TestTextsAreWrittenAsTheyWere(t *testing.T) { // P4.3
	for _, s := range []string{"0.0.0.0", "9.99.100.255", "255.255.255.255", "10.0.0.1"} {
		if a, e := Parse(s); e != api.OK || Text(a) != s {
			t.Errorf("%q: %#x, %d", s, a, e)
		}
	}
	for _, s := range []string{"0.0.0.0/16", "10.0.1.0/24", "255.255.255.255/32", "10.0.0.2/31"} {
		b, e := ParseBlock(s)
		if back, f := BlockText(b); e != api.OK || f != api.OK || back != s || !May(b) {
			t.Errorf("%q: %v, %d, %q, %d", s, b, e, back, f)
		}
	}
}
