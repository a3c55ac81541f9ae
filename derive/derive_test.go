package derive_test

import (
	"bytes"
	"math"
	"math/rand/v2"
	"testing"

	"tansy/api"
	"tansy/derive"
	"tansy/perm"
)

// octets are so many octets by chance, which follow from seed and n alone.
func octets(seed, n int) []byte {
	x := rand.New(rand.NewPCG(uint64(seed), uint64(n)))
	b := make([]byte, n)
	for i := range b {
		b[i] = byte(x.Uint32())
	}
	return b
}

// counted are the octets 0, 1, and so on, as many as a word has at the most.
func counted() []byte {
	b := make([]byte, api.MaxPass)
	for i := range b {
		b[i] = byte(i)
	}
	return b
}

// zeros are as many octets 0 as a word has at the most.
func zeros() []byte { return make([]byte, api.MaxPass) }

// most is a state all bits of which are set.
var most = api.Words{math.MaxUint32, math.MaxUint32, math.MaxUint32, math.MaxUint32}

// states are some of each kind, states with one bit alone, and some by chance.
func states() []api.Words {
	l := []api.Words{{}, {1, 2, 3, 4}, most, {0xdeadbeef, 0x01020304, 0x80000000, 0x7fffffff}}
	for i := range 4 {
		for k := range 32 {
			var one api.Words
			one[i] = 1 << k
			l = append(l, one)
		}
	}
	x := rand.New(rand.NewPCG(10, 10))
	for range 100 {
		l = append(l, api.Words{x.Uint32(), x.Uint32(), x.Uint32(), x.Uint32()})
	}
	return l
}

// words are texts that end wherever a whole eight does, and elsewhere, up to the longest one.
func words() [][]byte {
	l := [][]byte{nil, {0}, {128}, {255}, []byte("tansy"), []byte("salt"), counted(), zeros(), bytes.Repeat([]byte{128}, api.MaxPass)}
	for _, n := range []int{1, 7, 8, 9, 15, 16, 17, 31, 32, 55, 56, 57, 62, 63, 64} {
		l = append(l, octets(1, n), make([]byte, n))
	}
	return l
}

// long are texts that are too long.
func long() [][]byte {
	var l [][]byte
	for _, n := range []int{65, 66, 71, 72, 127, 128, 1000, api.MaxSqueeze, api.MaxSqueeze + 1} {
		l = append(l, make([]byte, n), octets(2, n))
	}
	return l
}

// taken is a state behind texts, one after the other, as the chapter's words say.
func taken(t *testing.T, s api.Words, texts ...[]byte) api.Words {
	t.Helper()
	for _, b := range texts {
		next, e := perm.Absorb(s, b)
		if e != api.OK {
			t.Fatalf("%v: got %d", b, e)
		}
		s = next
	}
	return s
}

// gone is a state behind so many rounds, as the chapter's words say.
func gone(t *testing.T, s api.Words, word []byte, rounds int) api.Words {
	t.Helper()
	for range rounds {
		s = taken(t, s, word)
	}
	return s
}

// P10.1: states that are known: the salt comes ahead of the word, and each by itself.
func TestStartKnown(t *testing.T) {
	for _, c := range []struct {
		word, salt string
		want       api.Words
	}{
		{"", "", api.Words{0x8902f4b1, 0x70409a54, 0xc8fbe286, 0xc2f92f70}},
		{"tansy", "", api.Words{0xbe554c5a, 0xb937a43f, 0x83898a44, 0xea06a0c1}},
		{"", "tansy", api.Words{0xe6e87a3b, 0x8e090baa, 0xc90214db, 0x52d26d3c}},
		{"tansy", "salt", api.Words{0x7a83a203, 0x7b441707, 0xae5fc63d, 0x4ae9399d}},
		{"salt", "tansy", api.Words{0xea2c979c, 0xaaf908a8, 0x3b321bd2, 0xa6e24e68}},
		{"12345678", "1234567", api.Words{0xbdc66602, 0x22f783e1, 0xe83b6bf3, 0xd8fd841a}},
		{"\x80", "\x00", api.Words{0xdbae930e, 0x7ca4c81d, 0xc72e09d5, 0xde914c70}},
		{string(zeros()), string(counted()), api.Words{0x8fb4ec7, 0x86c5ac01, 0xdf162349, 0x9ec24571}},
		{string(counted()), string(zeros()), api.Words{0xfa338f2a, 0xf2fb46, 0x388bbe53, 0x7358448f}},
	} {
		if got, e := derive.Start([]byte(c.word), []byte(c.salt)); got != c.want || e != api.OK {
			t.Errorf("%q, %q: got %#x, %d, want %#x", c.word, c.salt, got, e, c.want)
		}
	}
}

// P10.1: Start is the state of zeros behind the salt, and then the word, of all lengths of both.
func TestStart(t *testing.T) {
	for n := range api.MaxPass + 1 {
		for m := range api.MaxPass + 1 {
			word, salt := octets(3, n), octets(4, m)
			if got, e := derive.Start(word, salt); got != taken(t, api.Words{}, salt, word) || e != api.OK {
				t.Fatalf("%v, %v: got %#x, %d", word, salt, got, e)
			}
		}
	}
	for _, word := range words() {
		for _, salt := range words() {
			if got, e := derive.Start(word, salt); got != taken(t, api.Words{}, salt, word) || e != api.OK {
				t.Fatalf("%v, %v: got %#x, %d", word, salt, got, e)
			}
		}
	}
}

// P10.1: ErrLong, if the word, or the salt, or both are too long; the state is zero then.
func TestStartLong(t *testing.T) {
	for _, b := range long() {
		for _, word := range words() {
			for _, c := range [][2][]byte{{b, word}, {word, b}, {b, b}} {
				if got, e := derive.Start(c[0], c[1]); got != (api.Words{}) || e != api.ErrLong {
					t.Errorf("%d, %d octets: got %#x, %d", len(c[0]), len(c[1]), got, e)
				}
			}
		}
	}
}

// P10.2: states that are known, up to the most rounds; no rounds change nothing, as the chapter's example says.
func TestGoKnown(t *testing.T) {
	for _, c := range []struct {
		word        string
		rounds      int
		zero, count api.Words
	}{
		{"", 0, api.Words{}, api.Words{1, 2, 3, 4}},
		{"", 1, api.Words{0x3b9a0c84, 0xb966c7b2, 0x4a8eda92, 0xd73b8f8a}, api.Words{0x3fee9928, 0x37287044, 0xfc572290, 0x973c3a60}},
		{"", 2, api.Words{0x8902f4b1, 0x70409a54, 0xc8fbe286, 0xc2f92f70}, api.Words{0xde062cb3, 0xa5097612, 0xe5d2ceb9, 0x635cffe9}},
		{"", 1000, api.Words{0x13b877f4, 0xae0f8d52, 0xe14929e1, 0x67521f15}, api.Words{0x49b2d83b, 0x3287b7ff, 0x3ef82115, 0x5da5ef61}},
		{"", 4096, api.Words{0xcf4a671c, 0x1eff72c1, 0xcae390f5, 0x49fd2c88}, api.Words{0x4ce71d20, 0x7936b67d, 0xf2841b9e, 0x88d15a1d}},
		{"tansy", 0, api.Words{}, api.Words{1, 2, 3, 4}},
		{"tansy", 1, api.Words{0x39e2c845, 0x18e7563a, 0xb257edd8, 0x1e418193}, api.Words{0x9b04955a, 0xe735017c, 0x69ae5de9, 0x8cce53e0}},
		{"tansy", 2, api.Words{0xba314673, 0x88caafe2, 0xff06b9c3, 0x8d89f354}, api.Words{0xaeb54fc5, 0x8aa651fd, 0x7e2d9692, 0x4b207de8}},
		{"tansy", 4096, api.Words{0x157b9bfa, 0xc67345d, 0xec97a51d, 0x576a866b}, api.Words{0xf9d575a9, 0xd26cbce9, 0x5728ce3e, 0xba520a9}},
		{"12345678", 2, api.Words{0x25d5689c, 0x8b760181, 0x18f2375d, 0xcc24ab38}, api.Words{0xa73d7c9c, 0x45ac7bb7, 0xf247abc, 0xaba8ebd3}},
		{"12345678", 1000, api.Words{0x8d448bea, 0x463f2241, 0x76707825, 0xbd317e43}, api.Words{0xd21faad8, 0xc1f9dd45, 0x51b7fd5d, 0x26a7e87}},
		{string(counted()), 1, api.Words{0xa3f3f03e, 0xc454b9cd, 0xe4410f8b, 0x3bb21de1}, api.Words{0x81c7b0f4, 0x94b10f2c, 0x4c08b9cd, 0x48fc5a89}},
		{string(counted()), 4096, api.Words{0x1ec91d65, 0xf8d7f916, 0xf627f400, 0xc2297a7}, api.Words{0x21c48ace, 0x403135, 0x5d7aa07e, 0x38d92e8a}},
	} {
		if got, e := derive.Go(api.Words{}, []byte(c.word), c.rounds); got != c.zero || e != api.OK {
			t.Errorf("%q, %d: got %#x, %d, want %#x", c.word, c.rounds, got, e, c.zero)
		}
		if got, e := derive.Go(api.Words{1, 2, 3, 4}, []byte(c.word), c.rounds); got != c.count || e != api.OK {
			t.Errorf("1, 2, 3, 4, %q, %d: got %#x, %d, want %#x", c.word, c.rounds, got, e, c.count)
		}
	}
}

// P10.2: Go is the word taken in so many times, from many states, by words of all lengths.
func TestGo(t *testing.T) {
	for _, s := range states() {
		for _, word := range words() {
			for _, rounds := range []int{0, 1, 2, 3, 10} {
				if got, e := derive.Go(s, word, rounds); got != gone(t, s, word, rounds) || e != api.OK {
					t.Fatalf("%#x, %v, %d: got %#x, %d", s, word, rounds, got, e)
				}
			}
		}
	}
	for n := range api.MaxPass + 1 {
		if got, e := derive.Go(most, octets(5, n), 5); got != gone(t, most, octets(5, n), 5) || e != api.OK {
			t.Errorf("%d octets: got %#x, %d", n, got, e)
		}
	}
}

// P10.2: each count of rounds up to the most is passed, and is one word more.
func TestGoEachCount(t *testing.T) {
	for _, word := range [][]byte{nil, []byte("tansy")} {
		s, want := api.Words{7, 0, 0, 9}, api.Words{7, 0, 0, 9}
		for rounds := range api.MaxRounds + 1 {
			if rounds%61 == 0 || rounds < 70 || rounds > api.MaxRounds-3 {
				if got, e := derive.Go(s, word, rounds); got != want || e != api.OK {
					t.Fatalf("%q, %d: got %#x, %d, want %#x", word, rounds, got, e, want)
				}
			}
			want = taken(t, want, word)
		}
	}
}

// fewer are counts of rounds that are below 0, more are counts above the most.
var (
	fewer = []int{-1, -2, -api.MaxRounds, math.MinInt32, math.MinInt, math.MinInt + 1}
	more  = []int{api.MaxRounds + 1, api.MaxRounds + 2, 2 * api.MaxRounds, 1 << 16, 1 << 32, math.MaxInt - 1, math.MaxInt}
)

// P10.2: ErrArg below no rounds, and above the most; the state is zero then.
func TestGoArg(t *testing.T) {
	for _, s := range []api.Words{{}, {1, 2, 3, 4}, most} {
		for _, word := range words() {
			for _, rounds := range append(append([]int(nil), fewer...), more...) {
				if got, e := derive.Go(s, word, rounds); got != (api.Words{}) || e != api.ErrArg {
					t.Errorf("%#x, %v, %d: got %#x, %d", s, word, rounds, got, e)
				}
			}
		}
	}
}

// P10.2: ErrLong, if the word is too long, whatever the rounds are, none of them too; the state is zero then.
func TestGoLong(t *testing.T) {
	for _, s := range []api.Words{{}, {1, 2, 3, 4}, most} {
		for _, word := range long() {
			for _, rounds := range append(append([]int{0, 1, 2, api.MaxRounds}, fewer...), more...) {
				if got, e := derive.Go(s, word, rounds); got != (api.Words{}) || e != api.ErrLong {
					t.Errorf("%#x, %d octets, %d: got %#x, %d", s, len(word), rounds, got, e)
				}
			}
		}
	}
}

// P10.3: keys that are known, and their marks.
func TestKeyKnown(t *testing.T) {
	for _, c := range []struct {
		word, salt string
		rounds     int
		want       api.Words
		mark       uint32
	}{
		{"", "", 1, api.Words{0x535be936, 0x7726f56d, 0x3e100ff6, 0xcc290904}, 0xb39d1696},
		{"", "", 4096, api.Words{0xd303191e, 0x811cf02c, 0x6a29c9c7, 0x9547c37f}, 0xf36dc05e},
		{"tansy", "salt", 1, api.Words{0x9cdefd61, 0xfc901465, 0x16d9374f, 0xecbb19d2}, 0xf1fdf4cd},
		{"tansy", "salt", 2, api.Words{0x6e15c328, 0x97928e86, 0xdc262d59, 0x3751c5c2}, 0x5f4ace87},
		{"tansy", "salt", 1000, api.Words{0x22fba42f, 0x1b53006c, 0xab3d238d, 0xc041c77c}, 0x52746db7},
		{"tansy", "", 1000, api.Words{0x86eccdec, 0x56ff31af, 0x67b8ff5a, 0xd92ba86c}, 0xd537298},
		{"salt", "tansy", 1000, api.Words{0x7dd942cb, 0x8fb763bf, 0x9c8d83cb, 0xbbb4549b}, 0xdc510781},
		{string(counted()), string(zeros()), 4095, api.Words{0x5020a99b, 0x30ed9ee9, 0x576854ba, 0xd22d0ce4}, 0x865d7234},
		{string(counted()), string(zeros()), 4096, api.Words{0xd9cedca3, 0x96a05889, 0x6e29416, 0xa8985b83}, 0x70511b02},
	} {
		got, e := derive.Key([]byte(c.word), []byte(c.salt), c.rounds)
		if got != c.want || e != api.OK {
			t.Errorf("%q, %q, %d: got %#x, %d, want %#x", c.word, c.salt, c.rounds, got, e, c.want)
		}
		if mark := derive.Mark(c.want); mark != c.mark {
			t.Errorf("%q, %q, %d: got the mark %#x, want %#x", c.word, c.salt, c.rounds, mark, c.mark)
		}
	}
}

// P10.3: Key is the salt, and the word, taken in, and the word again so many times.
func TestKey(t *testing.T) {
	for _, word := range words() {
		for _, salt := range words() {
			for _, rounds := range []int{1, 2, 7} {
				want := gone(t, taken(t, api.Words{}, salt, word), word, rounds)
				if got, e := derive.Key(word, salt, rounds); got != want || e != api.OK {
					t.Fatalf("%v, %v, %d: got %#x, %d, want %#x", word, salt, rounds, got, e, want)
				}
			}
		}
	}
	for _, rounds := range []int{63, 64, 65, api.MaxRounds - 1, api.MaxRounds} {
		want := gone(t, taken(t, api.Words{}, zeros(), counted()), counted(), rounds)
		if got, e := derive.Key(counted(), zeros(), rounds); got != want || e != api.OK {
			t.Errorf("%d: got %#x, %d, want %#x", rounds, got, e, want)
		}
	}
}

// P10.3: ErrArg below one round, and above the most; the key is zero then.
func TestKeyArg(t *testing.T) {
	for _, word := range words() {
		for _, rounds := range append(append([]int{0}, fewer...), more...) {
			for _, c := range [][2][]byte{{word, nil}, {nil, word}, {word, word}} {
				if got, e := derive.Key(c[0], c[1], rounds); got != (api.Words{}) || e != api.ErrArg {
					t.Errorf("%v, %v, %d: got %#x, %d", c[0], c[1], rounds, got, e)
				}
			}
		}
	}
}

// P10.3: ErrLong, if the word, or the salt, is too long, whatever the rounds are; the key is zero then.
func TestKeyLong(t *testing.T) {
	for _, b := range long() {
		for _, rounds := range append(append([]int{0, 1, 2, api.MaxRounds}, fewer...), more...) {
			for _, c := range [][2][]byte{{b, nil}, {nil, b}, {b, zeros()}, {zeros(), b}, {b, b}} {
				if got, e := derive.Key(c[0], c[1], rounds); got != (api.Words{}) || e != api.ErrLong {
					t.Errorf("%d, %d octets, %d: got %#x, %d", len(c[0]), len(c[1]), rounds, got, e)
				}
			}
		}
	}
}

// P10.3: marks that are known, of keys at the edges of what numbers are.
func TestMarkKnown(t *testing.T) {
	for _, c := range []struct {
		key  api.Words
		want uint32
	}{
		{api.Words{}, 0x54f13dd7},
		{api.Words{1, 2, 3, 4}, 0xd2d3b44d},
		{most, 0x31c0fdfe},
		{api.Words{1}, 0xeef6db9a},
		{api.Words{0, 0, 0, 1}, 0x1094f628},
		{api.Words{1 << 31}, 0xb69e74c1},
		{api.Words{0x1234567, 0x89abcdef, 0xfedcba98, 0x76543210}, 0x8cf0e920},
	} {
		if got := derive.Mark(c.key); got != c.want {
			t.Errorf("%#x: got %#x, want %#x", c.key, got, c.want)
		}
	}
}

// P10.3: Mark is the first number of what the key is permuted to, exclusive or the key's last one.
func TestMark(t *testing.T) {
	for _, key := range states() {
		if got, want := derive.Mark(key), perm.Perm(key)[0]^key[3]; got != want {
			t.Errorf("%#x: got %#x, want %#x", key, got, want)
		}
	}
}
