package image

import (
	"fmt"
	"hash/crc32"
	"math"
	"math/rand"
	"reflect"
	"slices"
	"strings"
	"testing"
	"unsafe"

	"headgate/api"
)

// regs are registrants out of words like a1: a host of one letter, and its key.
func regs(words string) []api.Reg {
	var l []api.Reg
	for _, w := range strings.Fields(words) {
		l = append(l, api.Reg{Host: w[:1], Key: uint64(w[1] - '0')})
	}
	return l
}

// many are n registrants, all with names and keys of their own.
func many(n int) []api.Reg {
	var l []api.Reg
	for i := range n {
		l = append(l, api.Reg{Host: fmt.Sprint("host", i), Key: uint64(i + 1)})
	}
	return l
}

// long is a name of n bytes.
func long(n int) string { return strings.Repeat("n", n) }

func held(words string, typ int, host string) api.Table {
	return api.Table{Regs: regs(words), Hold: api.Hold{Type: typ, Host: host}}
}

func sameTable(x, y api.Table) bool {
	return slices.Equal(x.Regs, y.Regs) && x.Hold == y.Hold && x.Gen == y.Gen && x.Aptpl == y.Aptpl
}

// goods are good tables: all types held by each of so many registrants, numbers with each of their bits, and the longest
// and shortest of all that has a length.
func goods() []api.Table {
	l := []api.Table{{}, {Aptpl: true}, {Gen: 1}, {Gen: math.MaxUint32}, {Gen: math.MaxUint32, Aptpl: true}}
	for _, n := range []int{1, 2, 3, api.MaxHosts - 1, api.MaxHosts} {
		x := api.Table{Regs: many(n), Gen: 258, Aptpl: n%2 == 0}
		for _, typ := range []int{0, api.WriteAll, api.All} {
			x.Hold = api.Hold{Type: typ}
			l = append(l, x)
		}
		for typ := api.WriteExclusive; typ <= api.Registrants; typ++ {
			for _, r := range x.Regs {
				x.Hold = api.Hold{Type: typ, Host: r.Host}
				l = append(l, x)
			}
		}
	}
	for bit := range 64 {
		key := uint64(1) << bit
		l = append(l, api.Table{Regs: []api.Reg{{Host: "a", Key: key}, {Host: "b", Key: -key}}, Gen: 1 << (bit % 32)})
	}
	for n := 1; n <= api.MaxName; n++ {
		l = append(l, api.Table{Regs: []api.Reg{{Host: long(n), Key: 1}, {Host: "b", Key: 1}}, Hold: api.Hold{Type: 1, Host: long(n)}})
	}
	var full api.Table
	for i := range api.MaxHosts {
		full.Regs = append(full.Regs, api.Reg{Host: long(api.MaxName-1) + string(rune('a'+i)), Key: math.MaxUint64})
	}
	return append(l, full, held("a1 b1 c2", 2, "c"), api.Table{Regs: []api.Reg{{Host: "a.:-9", Key: 5}}})
}

// bads are tables that are not good, each for one reason.
func bads() []api.Table {
	l := []api.Table{
		{Regs: many(api.MaxHosts + 1)}, {Regs: many(1 << 8)}, {Regs: many(1<<8 + 1)}, // too many
		held("a1 a1", 0, ""), held("a1 a2", 0, ""), held("a1 b1 c1 a3", 0, ""), // twice
		held("a0", 0, ""), held("a1 b0", 0, ""), // key
		held("", 0, "a"), held("a1", 0, "a"), held("a1", 0, "b"), // holder of nothing
		held("", 5, ""), held("", 6, ""), held("a1", 5, "a"), held("a1", 6, "a"), held("a1", 5, "b"), held("a1", 6, "b"), // shared
	}
	for typ := api.WriteExclusive; typ <= api.Registrants; typ++ {
		l = append(l, held("", typ, ""), held("", typ, "a"), held("a1", typ, ""), held("a1", typ, "b"), held("a1 b2", typ, "A"))
	}
	for _, typ := range []int{-1, 7, 8, 1 << 8, 1<<8 + 1, 1<<8 + 5, 1 << 32, 1<<32 + 2, math.MaxInt, math.MinInt, math.MinInt + 1} {
		l = append(l, held("a1", typ, ""), held("a1", typ, "a"))
	}
	for _, host := range []string{"", "A", "9", ".a", "a ", "a\x00", "a_", "\xff", "ä", long(api.MaxName + 1), long(1 << 8), long(1<<8 + 1)} {
		l = append(l, api.Table{Regs: []api.Reg{{Host: host, Key: 1}}})
		l = append(l, api.Table{Regs: []api.Reg{{Host: "a", Key: 1}, {Host: host, Key: 1}}, Hold: api.Hold{Type: 1, Host: "a"}})
		l = append(l, api.Table{Regs: []api.Reg{{Host: host, Key: 1}}, Hold: api.Hold{Type: 1, Host: host}})
	}
	return l
}

// wantDecoded asks Decode about s, and says whether the model took it for an image.
func wantDecoded(t *testing.T, what string, s string) bool {
	t.Helper()
	want, ok := modelDecode(s)
	wantErr := api.ErrImage
	if ok {
		wantErr = api.OK
	}
	got, err := Decode(s)
	if !sameTable(got, want) || err != wantErr {
		t.Errorf("%s: Decode(%q): %#v, %v, want %#v, %v", what, s, got, err, want, wantErr)
	}
	if ok {
		if again, err := Encode(got); again != s || err != api.OK {
			t.Errorf("%s: Encode of Decode(%q): %q, %v", what, s, again, err)
		}
	}
	return ok
}

func wantRefused(t *testing.T, what string, s string) {
	t.Helper()
	if got, err := Decode(s); err != api.ErrImage || !reflect.DeepEqual(got, api.Table{}) {
		t.Errorf("%s: Decode(%q): %#v, %v", what, s, got, err)
	}
}

// P12.1 and P12.2: images that are written out, with their digests.
func TestExamples(t *testing.T) {
	for _, x := range []struct {
		table api.Table
		image string
	}{
		{api.Table{}, "HGRT" + "\x00\x00\x00\x00" + "\x00\x00\x00\x00" + "\x35\x57\x96\x01"},
		{api.Table{Gen: 0x01020304, Aptpl: true}, "HGRT" + "\x01\x02\x03\x04" + "\x00\x00\x01\x00" + "\x9f\x9e\xf7\x5f"},
		{
			api.Table{Regs: regs("c7"), Hold: api.Hold{Type: 6}, Gen: 1},
			"HGRT" + "\x00\x00\x00\x01" + "\x06\x00\x00\x01" + "\x00\x00\x00\x00\x00\x00\x00\x07" + "\x01c" + "\xc2\x42\xa8\x88",
		},
		{
			api.Table{Regs: []api.Reg{{Host: "bc", Key: 0x0102030405060788}, {Host: "a:9", Key: 5}}, Hold: api.Hold{Type: 2, Host: "a:9"}},
			"HGRT" + "\x00\x00\x00\x00" + "\x02\x02\x00\x02" + "\x01\x02\x03\x04\x05\x06\x07\x88" + "\x02bc" +
				"\x00\x00\x00\x00\x00\x00\x00\x05" + "\x03a:9" + "\xb5\x2c\x99\x65",
		},
	} {
		if s, err := Encode(x.table); s != x.image || err != api.OK {
			t.Errorf("%#v: %x, %v", x.table, s, err)
		}
		if got, err := Decode(x.image); !sameTable(got, x.table) || err != api.OK {
			t.Errorf("%x: %#v, %v", x.image, got, err)
		}
	}
}

// P12.1 and P12.2: each good table has its image, and is what its image tells.
func TestGoods(t *testing.T) {
	tables := map[string]api.Table{}
	for _, x := range goods() {
		s, err := Encode(x)
		if s != modelEncode(x) || err != api.OK {
			t.Errorf("Encode(%#v): %q, %v", x, s, err)
		}
		if got, err := Decode(s); !sameTable(got, x) || err != api.OK {
			t.Errorf("Decode of Encode(%#v): %#v, %v", x, got, err)
		}
		if !wantDecoded(t, "good", s) {
			t.Errorf("%#v has no image", x)
		}
		if y, ok := tables[s]; ok && !sameTable(x, y) {
			t.Errorf("%#v and %#v: %q", x, y, s)
		}
		tables[s] = x
	}
}

// P12.1: a list of no registrants may be nil or not.
func TestEmpty(t *testing.T) {
	one, err := Encode(api.Table{Regs: []api.Reg{}})
	other, _ := Encode(api.Table{})
	if one != other || len(one) != 16 || err != api.OK {
		t.Errorf("%q, %q, %v", one, other, err)
	}
}

// P12.1: what is not good has no image, and what would be its image tells nothing.
func TestBads(t *testing.T) {
	for _, x := range bads() {
		if s, err := Encode(x); s != "" || err != api.ErrArg {
			t.Errorf("Encode(%#v): %q, %v", x, s, err)
		}
		s := modelEncode(x)
		// Lengths, numbers and types that are too great for a byte wrap round, which may leave a good table.
		if _, ok := modelDecode(s); !ok {
			wantRefused(t, fmt.Sprintf("%#v", x), s)
		}
	}
}

// P12.1: each field that no good table has, in what is an image otherwise.
func TestFaults(t *testing.T) {
	const two = "\x00\x00\x00\x00\x00\x00\x00\x05\x01a\x80\x00\x00\x00\x00\x00\x00\x00\x02bc"
	for _, x := range []struct{ what, body string }{
		{"mark", "HGRS\x00\x00\x00\x00\x00\x00\x00\x00"}, {"mark", "hGRT\x00\x00\x00\x00\x00\x00\x00\x00"}, {"mark", "HGFR\x00\x00\x00\x00\x00\x00\x00\x00"},
		{"no mark", "\x00\x00\x00\x00\x00\x00\x00\x00"}, {"mark twice", "HGRTHGRT\x00\x00\x00\x00\x00\x00\x00\x00"},
		{"type of nobody", "HGRT\x00\x00\x00\x00\x01\x00\x00\x00"}, {"all of nobody", "HGRT\x00\x00\x00\x00\x05\x00\x00\x00"},
		{"type 7", "HGRT\x00\x00\x00\x00\x07\x01\x00\x02" + two}, {"type 255", "HGRT\x00\x00\x00\x00\xff\x01\x00\x02" + two}, {"type 8", "HGRT\x00\x00\x00\x00\x08\x00\x00\x02" + two},
		{"no holder", "HGRT\x00\x00\x00\x00\x03\x00\x00\x02" + two}, {"holder 3", "HGRT\x00\x00\x00\x00\x03\x03\x00\x02" + two}, {"holder 255", "HGRT\x00\x00\x00\x00\x03\xff\x00\x02" + two},
		{"holder 1 of none", "HGRT\x00\x00\x00\x00\x00\x01\x00\x00"}, {"holder of nothing", "HGRT\x00\x00\x00\x00\x00\x01\x00\x02" + two},
		{"holder 3 of nothing", "HGRT\x00\x00\x00\x00\x00\x03\x00\x02" + two}, {"holder 255 of all", "HGRT\x00\x00\x00\x00\x05\xff\x00\x02" + two},
		{"holder of all", "HGRT\x00\x00\x00\x00\x05\x01\x00\x02" + two}, {"holder of all", "HGRT\x00\x00\x00\x00\x06\x02\x00\x02" + two},
		{"aptpl 2", "HGRT\x00\x00\x00\x00\x03\x01\x02\x02" + two}, {"aptpl 255", "HGRT\x00\x00\x00\x00\x03\x01\xff\x02" + two}, {"aptpl 128", "HGRT\x00\x00\x00\x00\x00\x00\x80\x00"},
		{"one too many", "HGRT\x00\x00\x00\x00\x03\x01\x00\x03" + two}, {"one too few", "HGRT\x00\x00\x00\x00\x03\x01\x00\x01" + two}, {"none", "HGRT\x00\x00\x00\x00\x00\x00\x00\x00" + two},
		{"255 of 2", "HGRT\x00\x00\x00\x00\x03\x01\x00\xff" + two}, {"1 of none", "HGRT\x00\x00\x00\x00\x00\x00\x00\x01"},
		{"key 0", "HGRT\x00\x00\x00\x00\x00\x00\x00\x01\x00\x00\x00\x00\x00\x00\x00\x00\x01a"},
		{"no host", "HGRT\x00\x00\x00\x00\x00\x00\x00\x01\x00\x00\x00\x00\x00\x00\x00\x01\x00"},
		{"no host, held", "HGRT\x00\x00\x00\x00\x01\x01\x00\x01\x00\x00\x00\x00\x00\x00\x00\x01\x00"},
		{"host too long", "HGRT\x00\x00\x00\x00\x00\x00\x00\x01\x00\x00\x00\x00\x00\x00\x00\x01\x41" + long(65)},
		{"host too long", "HGRT\x00\x00\x00\x00\x00\x00\x00\x01\x00\x00\x00\x00\x00\x00\x00\x01\xff" + long(255)},
		{"host cut off", "HGRT\x00\x00\x00\x00\x00\x00\x00\x01\x00\x00\x00\x00\x00\x00\x00\x01\x02a"},
		{"host longer than told", "HGRT\x00\x00\x00\x00\x00\x00\x00\x01\x00\x00\x00\x00\x00\x00\x00\x01\x01ab"},
		{"no name", "HGRT\x00\x00\x00\x00\x00\x00\x00\x01\x00\x00\x00\x00\x00\x00\x00\x01\x01A"}, {"no name", "HGRT\x00\x00\x00\x00\x00\x00\x00\x01\x00\x00\x00\x00\x00\x00\x00\x01\x02a\x00"},
		{"bytes behind", "HGRT\x00\x00\x00\x00\x03\x01\x00\x02" + two + "x"}, {"zero behind", "HGRT\x00\x00\x00\x00\x00\x00\x00\x00\x00"}, {"zeros behind", "HGRT\x00\x00\x00\x00\x00\x00\x00\x00\x00\x00\x00\x00"},
		{"twice", "HGRT\x00\x00\x00\x00\x00\x00\x00\x02" + strings.Repeat("\x00\x00\x00\x00\x00\x00\x00\x05\x01a", 2)},
		{"17 hosts", modelBody(17)}, {"255 hosts", modelBody(255)},
	} {
		wantRefused(t, x.what, sealed(x.body))
		if wantDecoded(t, x.what, sealed(x.body)) {
			t.Errorf("%s is an image", x.what)
		}
	}
	if !wantDecoded(t, "16 hosts", sealed(modelBody(16))) {
		t.Error("16 hosts have no image")
	}
}

// modelBody is what would be the image of a table of n hosts, without its digest.
func modelBody(n int) string { return unsealed(modelEncode(api.Table{Regs: many(n)})) }

// P12.3: an image that is cut off is none, also if what is left has its digest behind it.
func TestCutOff(t *testing.T) {
	for _, x := range goods() {
		s := modelEncode(x)
		for i := range len(s) {
			wantRefused(t, "cut off behind", s[:i])
			if i > 0 {
				wantRefused(t, "cut off ahead", s[i:])
			}
		}
		for i := range len(s) - 4 {
			wantRefused(t, "cut off and sealed", sealed(s[:i]))
		}
	}
}

// P12.1: all of s must be the image.
func TestMore(t *testing.T) {
	for _, x := range goods() {
		s := modelEncode(x)
		for _, more := range []string{"\x00", "x", "\x00\x00\x00\x00", s[len(s)-4:], s, strings.Repeat("\x00", api.Sector-len(s)%api.Sector)} {
			wantRefused(t, "behind", s+more)
			wantRefused(t, "ahead", more+s)
			wantRefused(t, "behind, sealed", sealed(s+more))
			wantRefused(t, "behind the body", sealed(unsealed(s)+more))
		}
	}
}

// P12.1: the digest is that of the body, in its order.
func TestDigest(t *testing.T) {
	for _, x := range goods() {
		s := modelEncode(x)
		body := unsealed(s)
		for i := len(body); i < len(s); i++ {
			for bit := range 8 {
				wantRefused(t, "bit of the digest", s[:i]+string([]byte{s[i] ^ 1<<bit})+s[i+1:])
			}
		}
		turned := []byte(s[len(body):])
		slices.Reverse(turned)
		other := crc32.ChecksumIEEE([]byte(body))
		for _, digest := range []string{"\x00\x00\x00\x00", "\xff\xff\xff\xff", "abcd", string(turned), string([]byte{byte(other), byte(other >> 8), byte(other >> 16), byte(other >> 24)})} {
			wantRefused(t, "digest", body+digest)
		}
	}
}

// P12.1 and P12.2: whatever byte is put for another one, left out or put between, decides by itself what the text tells.
func TestOneByte(t *testing.T) {
	images := 0
	count := func(s string) {
		if wantDecoded(t, "one byte", sealed(s)) {
			images++
		}
	}
	for _, x := range []api.Table{
		{}, held("a1", 0, ""), held("a1", 5, ""), held("a1 b2", 4, "b"), held("c3 a1 b2", 1, "c"), {Regs: many(16), Hold: api.Hold{Type: 2, Host: "host15"}, Aptpl: true},
	} {
		body := unsealed(modelEncode(x))
		for i := range body {
			for b := range 256 {
				one := string([]byte{byte(b)})
				count(body[:i] + one + body[i+1:])
				count(body[:i] + one + body[i:])
				if one != body[i:i+1] {
					wantRefused(t, "one byte, not sealed", body[:i]+one+body[i+1:]+sealed(body)[len(body):])
				}
			}
			count(body[:i] + body[i+1:])
		}
	}
	if images < 1000 {
		t.Errorf("%d images", images)
	}
}

// P12.1: all heads with one registrant, or with two, or with none behind them.
func TestHeads(t *testing.T) {
	images := 0
	for _, behind := range []string{"", "\x00\x00\x00\x00\x00\x00\x00\x05\x01a", "\x00\x00\x00\x00\x00\x00\x00\x05\x01a\x80\x00\x00\x00\x00\x00\x00\x00\x02bc"} {
		for i := range 9 * 5 * 4 * 5 {
			head := string([]byte{byte(i % 9), byte(i / 9 % 5), byte(i / 45 % 4), byte(i / 180)})
			if wantDecoded(t, "head", sealed("HGRT\x00\x00\x00\x09"+head+behind)) {
				images++
			}
		}
	}
	// With and without Aptpl: nobody's; of one host none, four types, two that all hold; of two hosts four types more.
	if want := 2 * (1 + 7 + 11); images != want {
		t.Errorf("%d images, want %d", images, want)
	}
}

// P12.1 and P12.2: random changes in the bytes of images.
func TestRandom(t *testing.T) {
	r := rand.New(rand.NewSource(12))
	l := goods()
	for range 100000 {
		body := []byte(unsealed(modelEncode(l[r.Intn(len(l))])))
		for range r.Intn(3) {
			body[r.Intn(len(body))] = byte(r.Intn(20))
		}
		if r.Intn(4) == 0 {
			body = body[:r.Intn(len(body)+1)]
		}
		wantDecoded(t, "random", sealed(string(body)))
		wantDecoded(t, "random, not sealed", string(body))
	}
}

// Any text of any size is answered.
func TestTexts(t *testing.T) {
	for _, s := range []string{
		"", "H", "HGR", "HGRT", "HGRT\x00", "\x00\x00\x00\x00", sealed(""), sealed("HGRT"), strings.Repeat("\x00", 16), strings.Repeat("\xff", 16), strings.Repeat("\xff", 1<<20),
		"HGRT" + strings.Repeat("\xff", 1<<20), sealed("HGRT" + strings.Repeat("\xff", 12)), sealed("HGRT" + strings.Repeat("\x01", 1<<20)),
	} {
		wantRefused(t, "text", s)
	}
	r := rand.New(rand.NewSource(1))
	for range 10000 {
		b := make([]byte, r.Intn(60))
		r.Read(b)
		wantRefused(t, "random", string(b))
		wantDecoded(t, "random, sealed", sealed("HGRT"+string(b)))
	}
}

// Encode leaves its argument as it is, with its spare capacity.
func TestArguments(t *testing.T) {
	spare := regs("a1 b2 c3 d4")
	before := slices.Clone(spare)
	for _, x := range []api.Table{
		{Regs: spare[:2], Hold: api.Hold{Type: 3, Host: "b"}, Gen: 5, Aptpl: true}, {Regs: spare[:2], Hold: api.Hold{Type: 3, Host: "c"}}, {Regs: spare[:0]},
	} {
		y := x
		Encode(x)
		if !reflect.DeepEqual(x, y) || !slices.Equal(spare, before) {
			t.Errorf("%#v, %#v", x, spare)
		}
	}
}

// Each table that is decoded stands in memory of its own, and so does each of its texts.
func TestMemory(t *testing.T) {
	whole := []byte(modelEncode(held("a1 b2 c3", 4, "b")))
	s := unsafe.String(&whole[0], len(whole))
	x, _ := Decode(s)
	y, _ := Decode(s)
	var places []*byte
	for _, z := range []api.Table{x, y} {
		places = append(places, unsafe.StringData(z.Hold.Host))
		for _, r := range z.Regs {
			places = append(places, unsafe.StringData(r.Host))
		}
	}
	for i, p := range places {
		if slices.Index(places, p) < i {
			t.Errorf("text %d stands where another one does", i)
		}
		at, from := uintptr(unsafe.Pointer(p)), uintptr(unsafe.Pointer(&whole[0]))
		if at >= from && at < from+uintptr(len(whole)) {
			t.Errorf("text %d stands in the image", i)
		}
	}
	clear(x.Regs[:cap(x.Regs)])
	clear(whole)
	if !sameTable(y, held("a1 b2 c3", 4, "b")) {
		t.Errorf("%#v", y)
	}
}
