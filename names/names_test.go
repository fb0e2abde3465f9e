package names

import (
	"fmt"
	"regexp"
	"strings"
	"testing"

	"headgate/api"
)

// The chapter's words as patterns; how long a name is at most is asked beside them.
var (
	namePattern = regexp.MustCompile(`^[a-z][a-z0-9.:-]*$`)
	iqnPattern  = regexp.MustCompile(`^iqn\.[0-9]{4}-(0[1-9]|1[0-2])\.[a-z][a-z0-9.:-]*$`)
	nqnPattern  = regexp.MustCompile(`^nqn\.[0-9]{4}-(0[1-9]|1[0-2])\.[a-z][a-z0-9.:-]*$`)
)

func matches(p *regexp.Regexp, s string) bool { return len(s) <= 64 && p.MatchString(s) }

// check holds all answers about s against the patterns.
func check(t *testing.T, s string) {
	t.Helper()
	if got, want := Name(s), matches(namePattern, s); got != want {
		t.Errorf("Name(%q): %v", s, got)
	}
	iqn, nqn := matches(iqnPattern, s), matches(nqnPattern, s)
	if got := Iqn(s); got != iqn {
		t.Errorf("Iqn(%q): %v", s, got)
	}
	if got := Nqn(s); got != nqn {
		t.Errorf("Nqn(%q): %v", s, got)
	}
	want, wantErr := "", api.ErrName
	if iqn || nqn {
		want, wantErr = s[len("iqn.2020-01."):], api.OK
	}
	if got, err := Host(s); got != want || err != wantErr {
		t.Errorf("Host(%q): %q, %v", s, got, err)
	}
	checkMade(t, s)
}

// checkMade holds the names that are made from host against the patterns.
func checkMade(t *testing.T, host string) {
	t.Helper()
	for _, x := range []struct {
		of      string
		make    func(string) (string, api.Errno)
		pattern *regexp.Regexp
		head    string
	}{
		{"AsIqn", AsIqn, iqnPattern, "iqn.2020-01."},
		{"AsNqn", AsNqn, nqnPattern, "nqn.2020-01."},
	} {
		want, wantErr := x.head+host, api.OK
		if !matches(x.pattern, want) {
			want, wantErr = "", api.ErrName
		}
		if got, err := x.make(host); got != want || err != wantErr {
			t.Errorf("%s(%q): %q, %v", x.of, host, got, err)
		}
	}
}

// P3.1: what is a name, and what is not.
func TestName(t *testing.T) {
	for _, s := range []string{"a", "z", "a0", "a9", "a.", "a-", "a:", "a1.-:z", "abcdefghijklmnopqrstuvwxyz0123456789.-:", "a..--::", strings.Repeat("a", 64), "a" + strings.Repeat("9", 63)} {
		if !Name(s) {
			t.Errorf("%q", s)
		}
	}
	for _, s := range []string{"", "0", "9a", ".a", "-a", ":a", "A", "aA", "Aa", "a_", "a b", " a", "a ", "a\n", "a\x00", "\x00a", "a/", "a;", "a`", "a{", "a,", "é", "aé", "a\xff", "\xe1", strings.Repeat("a", 65), strings.Repeat("a", 1000)} {
		if Name(s) {
			t.Errorf("%q", s)
		}
	}
}

// P3.1: what is an iqn, an nqn or neither, and its host.
func TestHost(t *testing.T) {
	for _, x := range []struct {
		s        string
		iqn, nqn bool
		host     string
	}{
		{"iqn.2020-01.a:b", true, false, "a:b"},
		{"nqn.2020-01.a:b", false, true, "a:b"},
		{"iqn.0000-12.z", true, false, "z"},
		{"nqn.9999-10.z-9", false, true, "z-9"},
		{"iqn.1234-09.iqn.2020-01.a", true, false, "iqn.2020-01.a"},
		{"iqn.2020-11." + strings.Repeat("b", 52), true, false, strings.Repeat("b", 52)},
		{"nqn.2020-11." + strings.Repeat("b", 52), false, true, strings.Repeat("b", 52)},
	} {
		host, err := Host(x.s)
		if Iqn(x.s) != x.iqn || Nqn(x.s) != x.nqn || host != x.host || err != api.OK {
			t.Errorf("%q: %v, %v, %q, %v", x.s, Iqn(x.s), Nqn(x.s), host, err)
		}
	}
}

// P3.1: what is neither an iqn nor an nqn has no host.
func TestHostRefused(t *testing.T) {
	for _, rest := range []string{
		"", "2", "2020", "2020-", "2020-0", "2020-01", "2020-01.", "2020-00.a", "2020-13.a", "2020-20.a", "2020-99.a",
		"2020-1.a", "2020-1.aa", "2020-001.a", "202-01.a", "202-01.aa", "20200-01.a", "202a-01.a", "a020-01.a", "2020-0a.a", "2020-a1.a", "2020-1-.a", "2020-1..a", "2020-0:.a",
		"2020.01.a", "202001.a", "202001.aaa", "2020:01.a", "2020-01a", "2020-01aa", "2020-01-a", "2020-01:a",
		"2020-01..", "2020-01..a", "2020-01.-a", "2020-01.:a", "2020-01.9", "2020-01.9a", "2020-01.A", "2020-01.aA", "2020-01.a_", "2020-01.a\n", "2020-01.é", "2020-01. a",
		"2020-01." + strings.Repeat("b", 53), "2020-01." + strings.Repeat("b", 1000),
		" 2020-01.a", "-020-01.a", "+020-01.a",
	} {
		for _, head := range []string{"iqn.", "nqn."} {
			refuseHost(t, head+rest)
		}
	}
	for _, head := range []string{"", "qn.", "iqn", "nqn", "iqn:", "nqn-", "iqn..", "eui.", "naa.", "IQN.", "Iqn.", "NQN.", "inqn.", " iqn.", "iqn.iqn.", "mqn.", "iqm.", "i.n."} {
		refuseHost(t, head+"2020-01.a")
		refuseHost(t, head+"2020-01.aaaa")
	}
}

func refuseHost(t *testing.T, s string) {
	t.Helper()
	if host, err := Host(s); Iqn(s) || Nqn(s) || host != "" || err != api.ErrName {
		t.Errorf("%q: %v, %v, %q, %v", s, Iqn(s), Nqn(s), host, err)
	}
}

// P3.1 and P3.2: each byte at each place of a text, each one left out, and each one written twice.
func TestChanged(t *testing.T) {
	for _, s := range []string{"a", "a1.-:z", "iqn.2020-01.a", "nqn.2020-12.a:b", "iqn.2020-10." + strings.Repeat("b", 52)} {
		for i := range len(s) {
			for c := range 256 {
				b := []byte(s)
				b[i] = byte(c)
				check(t, string(b))
			}
			check(t, s[:i])
			check(t, s[i:])
			check(t, s[:i]+s[i+1:])
			check(t, s[:i+1]+s[i:])
		}
	}
}

// P3.1: each month that two digits can tell, in several years.
func TestMonths(t *testing.T) {
	for _, year := range []string{"0000", "0001", "1999", "2020", "9999"} {
		for m := range 100 {
			for _, head := range []string{"iqn.", "nqn."} {
				s := fmt.Sprintf("%s%s-%02d.a", head, year, m)
				check(t, s)
				if (Iqn(s) || Nqn(s)) != (m >= 1 && m <= 12) {
					t.Errorf("%q", s)
				}
			}
		}
	}
}

// P3.1 and P3.2: each length around the longest, of names and of hosts.
func TestLengths(t *testing.T) {
	for n := range 140 {
		s := strings.Repeat("c", n)
		check(t, s)
		check(t, "iqn.2020-01."+s)
		check(t, "nqn.2020-01."+s)
		if Name(s) != (n >= 1 && n <= 64) {
			t.Errorf("a name of %d bytes", n)
		}
		if _, err := Host("iqn.2020-01." + s); (err == api.OK) != (n >= 1 && n <= 52) {
			t.Errorf("a host of %d bytes: %v", n, err)
		}
	}
}

// P3.2: the names that are made from hosts.
func TestMade(t *testing.T) {
	for _, host := range []string{"a", "a:b", "a.", "z9", "iqn.2020-01.a", "nqn.1999-12.b", strings.Repeat("b", 52)} {
		if s, err := AsIqn(host); s != "iqn.2020-01."+host || err != api.OK {
			t.Errorf("AsIqn(%q): %q, %v", host, s, err)
		}
		if s, err := AsNqn(host); s != "nqn.2020-01."+host || err != api.OK {
			t.Errorf("AsNqn(%q): %q, %v", host, s, err)
		}
	}
}

// P3.2: from what is no host none is made.
func TestMadeRefused(t *testing.T) {
	for _, host := range []string{"", "1", "9a", ".", ".a", "-a", ":a", "A", "aA", "a_b", "a b", "a\n", "\x00", "a\xff", "é", strings.Repeat("b", 53), strings.Repeat("b", 64), strings.Repeat("b", 1000), strings.Repeat("b", 1<<20)} {
		if s, err := AsIqn(host); s != "" || err != api.ErrName {
			t.Errorf("AsIqn(%.80q): %q, %v", host, s, err)
		}
		if s, err := AsNqn(host); s != "" || err != api.ErrName {
			t.Errorf("AsNqn(%.80q): %q, %v", host, s, err)
		}
	}
}

// P3.3: what is made from a host has that host, in both protocols, and its host makes it again.
func TestBack(t *testing.T) {
	const allowed = "abcdefghijklmnopqrstuvwxyz0123456789.-:"
	v := uint64(1)
	for n := range 52 {
		for range 40 {
			b := make([]byte, n+1)
			for i := range b {
				v = v*6364136223846793005 + 1442695040888963407
				among := len(allowed)
				if i == 0 {
					among = 26
				}
				b[i] = allowed[int(v>>33)%among]
			}
			checkBack(t, string(b))
		}
	}
}

func checkBack(t *testing.T, host string) {
	t.Helper()
	iqn, iqnErr := AsIqn(host)
	nqn, nqnErr := AsNqn(host)
	if iqnErr != api.OK || nqnErr != api.OK || !Iqn(iqn) || Nqn(iqn) || !Nqn(nqn) || Iqn(nqn) {
		t.Errorf("%q: %q, %v, %q, %v", host, iqn, iqnErr, nqn, nqnErr)
	}
	for _, s := range []string{iqn, nqn} {
		if got, err := Host(s); got != host || err != api.OK {
			t.Errorf("the host of %q: %q, %v", s, got, err)
		}
	}
}
