package name

import (
	"fmt"
	"slices"
	"strings"
	"testing"

	"derrick/api"
)

// label63 and label64 are the longest label and one that is too long by a byte.
var label63 = strings.Repeat("x", 63)
var label64 = strings.Repeat("x", 64)

// name255 and name256 are the longest name and one that is too long by a byte; deep255 and deep257 have labels of one byte.
var name255 = strings.Repeat("\x3f"+label63, 3) + "\x3d" + label63[:61] + Root
var name256 = strings.Repeat("\x3f"+label63, 3) + "\x3e" + label63[:62] + Root
var deep255 = strings.Repeat("\x01a", 127) + Root
var deep257 = strings.Repeat("\x01a", 128) + Root

// malformed are bytes that are no name, not even with uppercase letters or if names were longer.
var malformed = []string{
	"", "a", "\x01", "\x01a", "\x02a", "\x02a\x00", "\x01a\x01", "\x01a\x02b\x00",
	"\x00\x00", "\x00a", "\x01a\x00\x00", "\x01a\x00b", "\x00\x01a\x00", "\x01a\x00\x01b\x00",
	"\x40" + label64 + Root, "\x41" + label64 + "x" + Root, "\x01a\x40" + label64 + Root,
	"\xc0\x00", "\x01a\xc0\x00", "\x80\x00", "\xff" + strings.Repeat("x", 255) + Root,
	name255[:254], name255 + Root, "\x3f" + label63, strings.Repeat("\x01a", 500),
	strings.Repeat("\x01a", 200) + "\x00\x00",
}

// long are of the structure of a name, but have too many bytes.
var long = []string{name256, deep257, "\x3f" + label63 + name255, strings.Repeat("\x01A", 5000) + Root}

// notNames are all that is no name: with uppercase letters, too.
var notNames = slices.Concat(malformed, long, []string{"\x01A\x00", "\x01Z\x00", "\x02aB\x00", "\x01a\x03bcM\x00", deep255[:251] + "\x01A\x00"})

func TestFoldChangesUppercaseLettersAlone(t *testing.T) { // P2.1
	for c := range 256 {
		want := byte(c)
		if c >= 65 && c <= 90 {
			want = byte(c) + 32
		}
		s := "q" + string([]byte{byte(c), byte(c)}) + "!"
		if got := Fold(s); got != "q"+string([]byte{want, want})+"!" {
			t.Errorf("Fold(%q) = %q", s, got)
		}
	}
	for s, want := range map[string]string{"": "", "WWW.Ab": "www.ab", "\x03WWW\x02Ab\x00": "\x03www\x02ab\x00", "ÄÖ": "ÄÖ", "\xc3\x41\xff": "\xc3\x61\xff", "\u212a": "\u212a"} {
		if got := Fold(s); got != want {
			t.Errorf("Fold(%q) = %q", s, got)
		}
	}
}

func TestLabelsInOrder(t *testing.T) { // P2.1
	for _, c := range []struct {
		n    string
		want []string
	}{
		{Root, nil},
		{"\x03www\x02ab\x00", []string{"www", "ab"}},
		{"\x03wWW\x02Ab\x00", []string{"wWW", "Ab"}},
		{"\x01a\x01a\x02aa\x00", []string{"a", "a", "aa"}},
		{"\x03\x00\x01\xff\x01.\x00", []string{"\x00\x01\xff", "."}},
		{"\x3f" + label63 + Root, []string{label63}},
		{name255, []string{label63, label63, label63, label63[:61]}},
		{deep255, slices.Repeat([]string{"a"}, 127)},
		{strings.ToUpper(deep255), slices.Repeat([]string{"A"}, 127)},
	} {
		got, err := Labels(c.n)
		if !slices.Equal(got, c.want) || err != api.OK {
			t.Errorf("Labels(%q) = %q, %d", c.n, got, err)
		}
	}
}

func TestLabelsOfNoName(t *testing.T) { // P2.1, R1
	for _, n := range malformed {
		if l, err := Labels(n); len(l) != 0 || err != api.ErrForm {
			t.Errorf("Labels(%q) = %q, %d", n, l, err)
		}
	}
	for _, n := range long {
		if l, err := Labels(n); len(l) != 0 || err != api.ErrLong {
			t.Errorf("Labels(%q) = %q, %d", n, l, err)
		}
	}
}

func TestLabelsAreNewMemory(t *testing.T) { // R3
	n := "\x01a\x01b\x00"
	l, _ := Labels(n)
	l[0], l[1] = "z", "z"
	if again, _ := Labels(n); !slices.Equal(again, []string{"a", "b"}) {
		t.Error(again)
	}
}

func TestJoinFolds(t *testing.T) { // P2.1
	for _, c := range []struct {
		l    []string
		want string
	}{
		{nil, Root},
		{[]string{}, Root},
		{[]string{"www", "Ab"}, "\x03www\x02ab\x00"},
		{[]string{"AZ@[az"}, "\x06az@[az\x00"},
		{[]string{"\x00", ".", "\xff\xc1"}, "\x01\x00\x01.\x02\xff\xc1\x00"},
		{[]string{strings.ToUpper(label63)}, "\x3f" + label63 + Root},
		{[]string{label63, label63, label63, label63[:61]}, name255},
		{slices.Repeat([]string{"A"}, 127), deep255},
	} {
		before := slices.Clone(c.l)
		if got, err := Join(c.l); got != c.want || err != api.OK {
			t.Errorf("Join(%q) = %q, %d", c.l, got, err)
		}
		if !slices.Equal(before, c.l) {
			t.Errorf("Join changed %q to %q", before, c.l)
		}
	}
}

func TestJoinOfWrongLabels(t *testing.T) { // P2.1, R1
	many := slices.Repeat([]string{"a"}, 200)
	for _, c := range []struct {
		l    []string
		want api.Errno
	}{
		{[]string{""}, api.ErrForm},
		{[]string{"", "a"}, api.ErrForm},
		{[]string{"a", ""}, api.ErrForm},
		{[]string{"a", "", "b"}, api.ErrForm},
		{[]string{label64}, api.ErrForm},
		{[]string{"a", label64}, api.ErrForm},
		{[]string{strings.Repeat("y", 256)}, api.ErrForm},
		{[]string{strings.Repeat("y", 257)}, api.ErrForm},
		{append(slices.Clone(many), ""), api.ErrForm},
		{append(slices.Clone(many), label64), api.ErrForm},
		{[]string{label63, label63, label63, label63[:62]}, api.ErrLong},
		{[]string{label63, label63, label63, label63}, api.ErrLong},
		{slices.Repeat([]string{"a"}, 128), api.ErrLong},
		{many, api.ErrLong},
	} {
		if got, err := Join(c.l); got != "" || err != c.want {
			t.Errorf("Join(%q) = %q, %d, want %d", c.l, got, err, c.want)
		}
	}
}

// names are names of all kinds.
func names() []string {
	l := []string{Root, name255, deep255, "\x3f" + label63 + Root, "\x03www\x02ab\x00", "\x02ab\x00", "\x01b\x00", "\x01a\x01b\x00", "\x02.a\x01.\x00", "\x01\\\x01\x00\x00"}
	for c := range 256 {
		if c < 65 || c > 90 {
			l = append(l, "\x01"+string([]byte{byte(c)})+"\x01e\x00", "\x03e"+string([]byte{byte(c)})+"1\x00")
		}
	}
	return l
}

func TestMay(t *testing.T) { // P2.1
	for _, n := range names() {
		if !May(n) {
			t.Errorf("%q is a name", n)
		}
	}
	for _, n := range notNames {
		if May(n) {
			t.Errorf("%q is not a name", n)
		}
	}
	for c := range 256 {
		if May("\x02a"+string([]byte{byte(c)})+Root) != (c < 65 || c > 90) {
			t.Errorf("byte %d in a label", c)
		}
	}
}

func TestParent(t *testing.T) { // P2.2
	for _, c := range []struct {
		n, want string
	}{{"\x03www\x02ab\x00", "\x02ab\x00"}, {"\x02ab\x00", Root}, {"\x01a\x01a\x00", "\x01a\x00"}, {name255, name255[64:]}, {deep255, deep255[2:]}, {"\x01\x00\x01b\x00", "\x01b\x00"}} {
		if p, ok := Parent(c.n); p != c.want || !ok {
			t.Errorf("Parent(%q) = %q, %t", c.n, p, ok)
		}
	}
	for _, n := range append(slices.Clone(notNames), Root) {
		if p, ok := Parent(n); p != "" || ok {
			t.Errorf("Parent(%q) = %q, %t", n, p, ok)
		}
	}
}

func TestUnder(t *testing.T) { // P2.2
	for _, c := range []struct {
		n, zone string
		want    bool
	}{
		{Root, Root, true},
		{"\x02ab\x00", Root, true},
		{name255, Root, true},
		{name255, name255, true},
		{deep255, deep255[100:], true},
		{"\x03www\x02ab\x00", "\x02ab\x00", true},
		{"\x01c\x01b\x01a\x00", "\x01b\x01a\x00", true},
		{"\x01c\x01b\x01a\x00", "\x01a\x00", true},
		{"\x02ab\x00", "\x03www\x02ab\x00", false},
		{Root, "\x02ab\x00", false},
		{"\x02ab\x00", "\x02xy\x00", false},
		{"\x03www\x02ab\x00", "\x03www\x00", false},
		{"\x01c\x01b\x01a\x00", "\x01c\x01a\x00", false},
		{"\x03xab\x00", "\x02ab\x00", false},
		// The bytes of zone end n here, but they begin within a label.
		{"\x03x\x01b\x00", "\x01b\x00", false},
		{"\x04ab\x01b\x00", "\x01b\x00", false},
		{"\x01a\x03x\x01b\x00", "\x01b\x00", false},
		{"\x01a\x03\x01ab\x00", "\x01ab\x00", false},
		{"\x01\x00\x00", Root, true},
	} {
		if got := Under(c.n, c.zone); got != c.want {
			t.Errorf("Under(%q, %q) = %t", c.n, c.zone, got)
		}
	}
}

func TestUnderOfNoName(t *testing.T) { // P2.2
	for _, n := range notNames {
		for _, zone := range []string{Root, "\x01a\x00", n} {
			if Under(n, zone) || Under(zone, n) {
				t.Errorf("%q is no name, with %q", n, zone)
			}
		}
	}
	if Under("\x01a\x01B\x00", "\x01b\x00") || Under("\x01a\x01b\x00", "\x01B\x00") || Under("\x01A\x01b\x00", "\x01b\x00") {
		t.Error("uppercase letters are in no name")
	}
}

func TestDepth(t *testing.T) { // P2.2
	for n, want := range map[string]int{Root: 0, "\x01a\x00": 1, "\x01a\x01b\x00": 2, "\x03www\x02ab\x00": 2, name255: 4, deep255: 127} {
		if got := Depth(n); got != want {
			t.Errorf("Depth(%q) = %d", n, got)
		}
	}
	for _, n := range notNames {
		if got := Depth(n); got != -1 {
			t.Errorf("Depth(%q) = %d", n, got)
		}
	}
}

// texts are names with their text forms.
var texts = map[string]string{
	Root:                           ".",
	"\x03www\x02ab\x00":            "www.ab.",
	"\x01.\x00":                    `\..`,
	"\x02a.\x00":                   `a\..`,
	"\x01\\\x00":                   `\\.`,
	"\x02\\.\x00":                  `\\\..`,
	"\x03\x00\x09\x20\x00":         `\000\009\032.`,
	"\x03!~\x7f\x00":               `!~\127.`,
	"\x04\x80\xc3\xa4\xff\x00":     `\128\195\164\255.`,
	"\x04\\065\x00":                `\\065.`,
	"\x03065\x00":                  "065.",
	"\x05\"@$;(\x00":               `"@$;(.`,
	"\x02-_\x01*\x00":              "-_.*.",
	"\x3f" + label63 + "\x01b\x00": label63 + ".b.",
	name255:                        label63 + "." + label63 + "." + label63 + "." + label63[:61] + ".",
	deep255:                        strings.Repeat("a.", 127),
}

func TestText(t *testing.T) { // P2.3
	for n, want := range texts {
		if got := Text(n); got != want {
			t.Errorf("Text(%q) = %q", n, got)
		}
	}
	for _, n := range notNames {
		if got := Text(n); got != "" {
			t.Errorf("Text(%q) = %q", n, got)
		}
	}
}

// expected is how a byte is to be written, told apart from the way in which the package does it.
func expected(c int) string {
	if c == 46 || c == 92 {
		return fmt.Sprintf("\\%c", c)
	}
	if c >= 33 && c <= 126 {
		return fmt.Sprintf("%c", c)
	}
	return fmt.Sprintf("\\%03d", c)
}

func TestTextOfEveryByte(t *testing.T) { // P2.3, P2.4
	for c := range 256 {
		if c >= 65 && c <= 90 {
			continue
		}
		n := "\x03u" + string([]byte{byte(c)}) + "9\x00"
		want := "u" + expected(c) + "9."
		if got := Text(n); got != want {
			t.Errorf("Text(%q) = %q", n, got)
		}
		if got, err := Take(want); got != n || err != api.OK {
			t.Errorf("Take(%q) = %q, %d", want, got, err)
		}
	}
}

func TestTake(t *testing.T) { // P2.3
	for n, s := range texts {
		if got, err := Take(s); got != n || err != api.OK {
			t.Errorf("Take(%q) = %q, %d", s, got, err)
		}
		if n == Root {
			continue
		}
		if got, err := Take(s[:len(s)-1]); got != n || err != api.OK {
			t.Errorf("Take(%q) = %q, %d", s[:len(s)-1], got, err)
		}
	}
	for s, n := range map[string]string{
		"www.Ab.":                  "\x03www\x02ab\x00",
		"WWW.AB":                   "\x03www\x02ab\x00",
		"AZ@[":                     "\x04az@[\x00",
		`A\.B\\C.D`:                "\x05a.b\\c\x01d\x00",
		`a\.`:                      "\x02a.\x00",
		`\000\000`:                 "\x02\x00\x00\x00",
		`\0000`:                    "\x02\x000\x00",
		strings.Repeat("A.", 127):  deep255,
		strings.Repeat(`\255`, 63): "\x3f" + strings.Repeat("\xff", 63) + Root,
	} {
		if got, err := Take(s); got != n || err != api.OK {
			t.Errorf("Take(%q) = %q, %d", s, got, err)
		}
	}
}

func TestTakeOfWrongForm(t *testing.T) { // P2.3, R1
	for _, s := range []string{
		"", "..", "...", ".a", ".a.", "a..", "a..b", "a..b.", "..a", "a...",
		" ", "a b", "a\x00", "\x00", "a\x7f.", "\x80", "\xff.", "ä.", "a\n", "\t",
		`\`, `a\`, `a.\`, `a\.\`, `\0`, `\00`, `\00.`, `\0 0`, `\00a`, `\a`, `\a00`, `\(`, `\-01`, `\+01`, `\ 12`, `\1_2`, `\x41`, `\0x1`,
		`\256`, `\260`, `\300`, `\999`, `\1000.\`,
		`\065`, `\090`, `\097`, `\046`, `\092`, `\033`, `\126`, `\048`, `\A`,
		// A fault of form comes first, wherever it is.
		label64 + "..", label64 + ` .`, label64 + `.\065`, strings.Repeat("a.", 200) + ".", strings.Repeat("a.", 200) + `\`, strings.Repeat("a.", 200) + "b c",
	} {
		if got, err := Take(s); got != "" || err != api.ErrForm {
			t.Errorf("Take(%q) = %q, %d", s, got, err)
		}
	}
}

func TestTakeOfEveryEscape(t *testing.T) { // P2.3
	for c := range 1000 {
		s := fmt.Sprintf("\\%03d.", c)
		want, wantErr := "", api.ErrForm
		if c <= 32 || c >= 127 && c <= 255 {
			want, wantErr = "\x01"+string([]byte{byte(c)})+Root, api.OK
		}
		if got, err := Take(s); got != want || err != wantErr {
			t.Errorf("Take(%q) = %q, %d", s, got, err)
		}
	}
	for c := range 256 {
		s := "\\" + string([]byte{byte(c)})
		want, wantErr := "", api.ErrForm
		if c == 46 || c == 92 {
			want, wantErr = "\x01"+string([]byte{byte(c)})+Root, api.OK
		}
		if got, err := Take(s); got != want || err != wantErr {
			t.Errorf("Take(%q) = %q, %d", s, got, err)
		}
	}
}

func TestTakeOfLongTexts(t *testing.T) { // P2.3, R1
	for _, s := range []string{
		label64, label64 + ".", "a." + label64 + ".b", strings.Repeat(`\000`, 64), strings.Repeat("y", 256), strings.Repeat("y", 10000) + ".",
		strings.Repeat("a.", 128), strings.Repeat("a.", 127) + "a", strings.Repeat("abc.", 64),
		strings.Repeat(label63+".", 3) + label63[:62], strings.Repeat(label63+".", 3) + label63[:62] + ".", strings.Repeat(label63+".", 4),
	} {
		if got, err := Take(s); got != "" || err != api.ErrLong {
			t.Errorf("Take(%q) = %q, %d", s, got, err)
		}
	}
}

func TestConsequences(t *testing.T) { // P2.4
	for _, n := range names() {
		if got, err := Take(Text(n)); got != n || err != api.OK {
			t.Errorf("Take(Text(%q)) = %q, %d", n, got, err)
		}
		up := n
		for depth := Depth(n); depth > 0; depth-- {
			if !Under(n, up) || Depth(up) != depth {
				t.Errorf("%q, %q", n, up)
			}
			up, _ = Parent(up)
		}
		if up != Root || !Under(n, up) {
			t.Errorf("%q ends at %q", n, up)
		}
	}
}

// FuzzBytes looks for bytes for which the functions do not agree with each other, or panic.
func FuzzBytes(f *testing.F) {
	for _, n := range slices.Concat(names()[:20], notNames) {
		f.Add(n)
	}
	f.Fuzz(func(t *testing.T, n string) {
		l, err := Labels(n)
		if err != api.OK && (len(l) != 0 || May(n)) {
			t.Fatal(l, err)
		}
		if joined, e := Join(l); err == api.OK && (joined != Fold(n) || e != api.OK || May(n) != (joined == n)) {
			t.Fatal(l, joined, e)
		}
		p, ok := Parent(n)
		if May(n) != (Depth(n) == len(l)) || ok != (Depth(n) > 0) || (Text(n) != "") != May(n) || Under(n, Root) != May(n) {
			t.Fatal(l, p, ok)
		}
		if ok && (Depth(p) != len(l)-1 || !Under(n, p) || Under(p, n)) {
			t.Fatal(l, p)
		}
		if back, e := Take(Text(n)); May(n) && (back != n || e != api.OK) {
			t.Fatal(back, e)
		}
	})
}

// FuzzText looks for texts that are accepted though Text would not write them.
func FuzzText(f *testing.F) {
	for _, s := range texts {
		f.Add(s)
	}
	f.Fuzz(func(t *testing.T, s string) {
		n, err := Take(s)
		if err != api.OK {
			if n != "" {
				t.Fatal(n, err)
			}
			return
		}
		if text := Text(n); text != Fold(s) && text != Fold(s)+"." {
			t.Fatalf("%q is taken as %q", s, text)
		}
	})
}
