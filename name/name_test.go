package name_test

import (
	"math/rand/v2"
	"strings"
	"testing"

	"tansy/api"
	"tansy/name"
)

// texts are all texts of up to so many of an alphabet's octets.
func texts(alphabet string, most int) []string {
	l := []string{""}
	for from := 0; len(l[from]) < most; from++ {
		for i := range len(alphabet) {
			l = append(l, l[from]+alphabet[i:i+1])
		}
	}
	return l
}

// byChance are texts of so many octets, put together from pieces by chance, which follow from seed alone.
func byChance(seed uint64, count, long int, pieces ...string) []string {
	x := rand.New(rand.NewPCG(seed, uint64(long)))
	l := make([]string, count)
	for i := range l {
		for len(l[i]) < long {
			l[i] += pieces[x.IntN(len(pieces))]
		}
		l[i] = l[i][:long]
	}
	return l
}

// long is a text of so many octets, with parts of one octet each.
func long(n int) string { return strings.Repeat("a/", n)[:n] }

// ofName are all octets that may be in a name.
func ofName() string {
	b := make([]byte, 0, 94)
	for o := byte(33); o <= 126; o++ {
		b = append(b, o)
	}
	return string(b)
}

// cleaned is what Clean is to answer, as the chapter's words say: a part is kept if no ".." behind it comes down to where it is.
func cleaned(s string) (string, api.Errno) {
	if len(s) > 96 {
		return "", api.ErrLong
	}
	for _, o := range []byte(s) {
		if o != '/' && (o < 33 || o > 126) {
			return "", api.ErrForm
		}
	}
	all := strings.Split(s, "/")
	deep := make([]int, len(all))
	now := 0
	for i, part := range all {
		if part == ".." {
			now--
		} else if part != "" && part != "." {
			now++
		}
		if deep[i] = now; now < 0 {
			return "", api.ErrNone
		}
	}
	told := ""
	for i, part := range all {
		kept := part != "" && part != "." && part != ".."
		for _, d := range deep[i:] {
			kept = kept && d >= deep[i]
		}
		if kept {
			told += "/" + part
		}
	}
	if told == "" {
		return "", api.ErrArg
	}
	return told[1:], api.OK
}

// clean tells whether p is a clean name, as the chapter's words say.
func clean(p string) bool {
	if len(p) < 1 || len(p) > 96 {
		return false
	}
	for _, o := range []byte(p) {
		if o != '/' && (o < 33 || o > 126) {
			return false
		}
	}
	for _, part := range strings.Split(p, "/") {
		if part == "" || part == "." || part == ".." {
			return false
		}
	}
	return true
}

// folder tells whether dir is a clean folder, as the chapter's words say.
func folder(dir string) bool { return dir == "" || clean(dir) }

// odd are texts that are no clean names, of each kind; the empty one, which is a clean folder, is not among them.
func odd() []string {
	l := []string{"/", "//", "/a", "a/", "a//b", ".", "..", "./a", "a/.", "../a", "a/..", "a/./b", "a/../b", "a/b/", "/a/b", " ", "a b", "a ", " a", "\x00", "a\x1fb", "a/\x7f", "\x80", "a/\xff", "ä", "a/ä/b", "\n", "a\tb"}
	for _, n := range []int{97, 98, 192, 1000, 1 << 17} {
		l = append(l, long(n), strings.Repeat("a", n))
	}
	return l
}

// holdClean holds Clean of a text against the words.
func holdClean(t *testing.T, s string) {
	t.Helper()
	want, f := cleaned(s)
	if got, e := name.Clean(s); got != want || e != f {
		t.Fatalf("%q: got %q, %d, want %q, %d", s, got, e, want, f)
	}
}

// holdJoin holds Join of two texts against the words.
func holdJoin(t *testing.T, dir, s string) {
	t.Helper()
	want, f := "", api.ErrArg
	if folder(dir) {
		if f = api.ErrLong; len(dir)+1+len(s) <= 96 {
			want, f = cleaned(dir + "/" + s)
		}
	}
	if got, e := name.Join(dir, s); got != want || e != f {
		t.Fatalf("%q, %q: got %q, %d, want %q, %d", dir, s, got, e, want, f)
	}
}

// P11.1: names that are known, the chapter's example among them, and errors; with an error there is no name.
func TestCleanKnown(t *testing.T) {
	for _, c := range []struct {
		s, want string
		e       api.Errno
	}{
		{"a//b/./c/../d", "a/b/d", api.OK},
		{"a", "a", api.OK},
		{"a/b", "a/b", api.OK},
		{"/a", "a", api.OK},
		{"a/", "a", api.OK},
		{"///a///b///", "a/b", api.OK},
		{"./a", "a", api.OK},
		{"a/.", "a", api.OK},
		{"a/b/..", "a", api.OK},
		{"a/../b", "b", api.OK},
		{"/a/../b", "b", api.OK},
		{"a/b/../../c", "c", api.OK},
		{"a/b/c/../..//d/./e/..", "a/d", api.OK},
		{"a/a/..", "a", api.OK},
		{"...", "...", api.OK},
		{"..../a", "..../a", api.OK},
		{".a", ".a", api.OK},
		{"..a", "..a", api.OK},
		{"a.", "a.", api.OK},
		{"a..", "a..", api.OK},
		{"a/.../..", "a", api.OK},
		{"!~", "!~", api.OK},
		{"\\", "\\", api.OK},
		{"A/a", "A/a", api.OK},
		{ofName(), "!\"#$%&'()*+,-./0123456789:;<=>?@ABCDEFGHIJKLMNOPQRSTUVWXYZ[\\]^_`abcdefghijklmnopqrstuvwxyz{|}~", api.OK},
		{"", "", api.ErrArg},
		{"/", "", api.ErrArg},
		{"//", "", api.ErrArg},
		{".", "", api.ErrArg},
		{"./", "", api.ErrArg},
		{"/./.", "", api.ErrArg},
		{"a/..", "", api.ErrArg},
		{"a/b/../..", "", api.ErrArg},
		{"a/../b/..", "", api.ErrArg},
		{"..", "", api.ErrNone},
		{"/..", "", api.ErrNone},
		{"../a", "", api.ErrNone},
		{"./../a", "", api.ErrNone},
		{"a/../..", "", api.ErrNone},
		{"a/../../b", "", api.ErrNone},
		{"a/b/../../../c/d", "", api.ErrNone},
		{"a/./../..", "", api.ErrNone},
		{" ", "", api.ErrForm},
		{"a b", "", api.ErrForm},
		{"a/\x7f", "", api.ErrForm},
		{"\x00", "", api.ErrForm},
		{"a\n", "", api.ErrForm},
		{"ä", "", api.ErrForm},
		{"a/\xff/b", "", api.ErrForm},
	} {
		if got, e := name.Clean(c.s); got != c.want || e != c.e {
			t.Errorf("%q: got %q, %d, want %q, %d", c.s, got, e, c.want, c.e)
		}
	}
}

// P11.1: where several errors apply, ErrLong comes first, then ErrForm, then what the parts tell.
func TestCleanFirst(t *testing.T) {
	none := strings.Repeat("../", 40)
	for _, c := range []struct {
		s string
		e api.Errno
	}{
		{none[:97], api.ErrLong},
		{none[:96], api.ErrNone},
		{none[:96] + " ", api.ErrLong},
		{none[:95] + " ", api.ErrForm},
		{" " + none[:95], api.ErrForm},
		{"../ ", api.ErrForm},
		{"/ ", api.ErrForm},
		{" /..", api.ErrForm},
		{"a/../\x80", api.ErrForm},
		{strings.Repeat("/", 96), api.ErrArg},
		{strings.Repeat("/", 97), api.ErrLong},
		{strings.Repeat(" ", 97), api.ErrLong},
		{strings.Repeat("\x00", 1<<17), api.ErrLong},
		{"../..", api.ErrNone},
		{"a/../../..", api.ErrNone},
	} {
		if got, e := name.Clean(c.s); got != "" || e != c.e {
			t.Errorf("%q: got %q, %d, want %d", c.s, got, e, c.e)
		}
	}
}

// P11.1: all texts of few octets, and texts by chance of all lengths about the greatest one.
func TestClean(t *testing.T) {
	for _, s := range append(texts("a./", 9), texts("a./!~ ", 6)...) {
		holdClean(t, s)
	}
	for n := range 100 {
		for _, s := range byChance(11, 200, n, "a", "/", "/", "b.", "/..", "/../", "/./", "//", "...", "~!") {
			holdClean(t, s)
		}
		for _, s := range byChance(12, 50, n, "a/b/c/d/", "a/", "ab/", "../", "./", "/") {
			holdClean(t, s)
		}
		for _, s := range byChance(13, 20, n, "a", "/", "../", ofName(), " ", "\x7f", "ö") {
			holdClean(t, s)
		}
	}
}

// P11.1: each octet is of a name or not, wherever it stands.
func TestCleanEachOctet(t *testing.T) {
	for o := range 256 {
		for _, ahead := range []string{"", "a", "a/", "a/b"} {
			for _, behind := range []string{"", "a", "/a", "a/b"} {
				s := ahead + string([]byte{byte(o)}) + behind
				holdClean(t, s)
				_, e := name.Clean(s)
				if may := o >= 33 && o <= 126; may == (e == api.ErrForm) {
					t.Errorf("%q: got %d", s, e)
				}
			}
		}
	}
	for at := range 96 {
		for _, o := range []byte{0, 31, 32, 127, 128, 255} {
			b := []byte(long(96))
			b[at] = o
			if got, e := name.Clean(string(b)); got != "" || e != api.ErrForm {
				t.Errorf("%q: got %q, %d", b, got, e)
			}
		}
	}
}

// P11.1: the text has at most MaxName octets, whatever of it is kept.
func TestCleanLong(t *testing.T) {
	for _, c := range []struct {
		s, want string
		e       api.Errno
	}{
		{strings.Repeat("a", 95), strings.Repeat("a", 95), api.OK},
		{strings.Repeat("a", 96), strings.Repeat("a", 96), api.OK},
		{strings.Repeat("a", 97), "", api.ErrLong},
		{long(95), long(95), api.OK},
		{long(96), long(95), api.OK},
		{long(97), "", api.ErrLong},
		{strings.Repeat("/", 95) + "a", "a", api.OK},
		{strings.Repeat("/", 96) + "a", "", api.ErrLong},
		{"a" + strings.Repeat("/.", 47), "a", api.OK},
		{"a" + strings.Repeat("/.", 48), "", api.ErrLong},
		{strings.Repeat("a/../", 19) + "b", "b", api.OK},
		{strings.Repeat("a/../", 19) + "bc", "", api.ErrLong},
		{long(47) + strings.Repeat("/..", 16), "a/a/a/a/a/a/a/a", api.OK},
		{long(23) + strings.Repeat("/..", 24), "", api.ErrNone},
		{long(23) + strings.Repeat("/..", 12), "", api.ErrArg},
	} {
		if got, e := name.Clean(c.s); got != c.want || e != c.e {
			t.Errorf("%q: got %q, %d, want %q, %d", c.s, got, e, c.want, c.e)
		}
	}
}

// P11.2: Check is ErrArg, if it is no clean name, of each kind of those that are none, and of no other one.
func TestCheck(t *testing.T) {
	for _, s := range append(odd(), "") {
		if e := name.Check(s); e != api.ErrArg {
			t.Errorf("%q: got %d", s, e)
		}
	}
	for _, p := range []string{"a", "a/b", "...", ".a", "..a", "a.", "a..", "a/.../b", "!", "~", "!/~", "a/..b/.c", ofName(), strings.Repeat("a", 96), long(95), long(95) + "a"} {
		if e := name.Check(p); e != api.OK {
			t.Errorf("%q: got %d", p, e)
		}
	}
	for _, s := range append(texts("a./", 9), texts("a./!~ \x7f", 5)...) {
		if e := name.Check(s); (e == api.OK) != clean(s) || e != api.OK && e != api.ErrArg {
			t.Fatalf("%q: got %d", s, e)
		}
	}
	for n := range 100 {
		for _, s := range byChance(14, 100, n, "ab", "/", "c", "...", "/.d", "-/", "/..", "./") {
			if e := name.Check(s); (e == api.OK) != clean(s) || e != api.OK && e != api.ErrArg {
				t.Fatalf("%q: got %d", s, e)
			}
		}
	}
}

// P11.2: each octet is of a clean name or not, wherever it stands.
func TestCheckEachOctet(t *testing.T) {
	for o := range 256 {
		for at := range 96 {
			b := []byte(strings.Repeat("a", 96))
			b[at] = byte(o)
			if e := name.Check(string(b)); (e == api.OK) != clean(string(b)) || e != api.OK && e != api.ErrArg {
				t.Fatalf("%q: got %d", b, e)
			}
		}
	}
}

// P11.2: joined names that are known; ".." leads out of the folder, and a slash ahead of s is passed by.
func TestJoinKnown(t *testing.T) {
	for _, c := range []struct {
		dir, s, want string
		e            api.Errno
	}{
		{"a", "b", "a/b", api.OK},
		{"", "b", "b", api.OK},
		{"a/b", "c/d", "a/b/c/d", api.OK},
		{"a", "/b/", "a/b", api.OK},
		{"", "//b", "b", api.OK},
		{"a", "", "a", api.OK},
		{"a/b", ".", "a/b", api.OK},
		{"a/b", "..", "a", api.OK},
		{"a/b", "../c", "a/c", api.OK},
		{"a/b", "../../c", "c", api.OK},
		{"a", "./..x", "a/..x", api.OK},
		{"", "", "", api.ErrArg},
		{"", ".", "", api.ErrArg},
		{"a", "..", "", api.ErrArg},
		{"a/b", "c/../../..", "", api.ErrArg},
		{"", "..", "", api.ErrNone},
		{"a", "../..", "", api.ErrNone},
		{"a", "../../b", "", api.ErrNone},
		{"a", " ", "", api.ErrForm},
		{"", "b\x7f", "", api.ErrForm},
		{"a", ".. ", "", api.ErrForm},
	} {
		if got, e := name.Join(c.dir, c.s); got != c.want || e != c.e {
			t.Errorf("%q, %q: got %q, %d, want %q, %d", c.dir, c.s, got, e, c.want, c.e)
		}
	}
}

// P11.2: Join is ErrArg of what is no clean folder, whatever s is, also if all together is too long, or would be clean.
func TestJoinArg(t *testing.T) {
	for _, dir := range odd() {
		for _, s := range append(odd(), "", "a", "a/b", "../a", strings.Repeat("a", 96)) {
			if got, e := name.Join(dir, s); got != "" || e != api.ErrArg {
				t.Errorf("%q, %q: got %q, %d", dir, s, got, e)
			}
		}
	}
}

// P11.2: ErrLong, if the folder, a slash, and s have more than MaxName octets together, ahead of what s is, and whatever would be kept; the slash counts behind an empty folder too.
func TestJoinLong(t *testing.T) {
	for _, filler := range []string{"a", "b/", "/", "../", "./", " ", "\xff"} {
		for n := range 97 {
			dir := strings.TrimSuffix(long(n), "/")
			for m := max(0, 94-len(dir)); m <= 98-len(dir); m++ {
				s := strings.Repeat(filler, m)[:m]
				holdJoin(t, dir, s)
				if _, e := name.Join(dir, s); (e == api.ErrLong) != (len(dir)+1+m > 96) {
					t.Errorf("%q, %q: got %d", dir, s, e)
				}
			}
			holdJoin(t, dir, strings.Repeat(filler, 1<<16))
		}
	}
	whole := strings.Repeat("a", 96)
	for _, c := range []struct {
		dir, s, want string
		e            api.Errno
	}{
		{"", whole[:95], whole[:95], api.OK},
		{"", whole, "", api.ErrLong},
		{whole, "", "", api.ErrLong},
		{whole[:95], "", whole[:95], api.OK},
		{whole[:95], "a", "", api.ErrLong},
		{whole[:94], "b", whole[:94] + "/b", api.OK},
		{whole[:94], "..", "", api.ErrLong},
		{whole[:93], "..", "", api.ErrArg},
	} {
		if got, e := name.Join(c.dir, c.s); got != c.want || e != c.e {
			t.Errorf("%q, %q: got %q, %d, want %q, %d", c.dir, c.s, got, e, c.want, c.e)
		}
	}
}

// P11.2: Join of all texts of few octets, and of texts by chance.
func TestJoin(t *testing.T) {
	few := texts("a./ ", 4)
	for _, dir := range few {
		for _, s := range few {
			holdJoin(t, dir, s)
		}
	}
	for n := range 60 {
		dirs := byChance(15, 20, n, "a/", "bc", "d/e")
		for _, dir := range dirs {
			for _, s := range byChance(16, 20, 60-n/2, "a", "/", "../", "b/../", "..c", "//") {
				holdJoin(t, strings.TrimSuffix(dir, "/"), s)
			}
		}
	}
}
