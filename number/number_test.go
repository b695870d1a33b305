package number_test

import (
	"math"
	"math/big"
	"slices"
	"strconv"
	"strings"
	"testing"

	"antecede/api"
	"antecede/number"
)

const limit = api.MaxNumber

// samples are ordinary numbers, numbers beside the limits, and integers that are no numbers.
func samples() []int {
	l := []int{0, 1, 2, 3, 5, 7, 12, 18, 97, 1000, 1<<25 - 1, 1 << 25, 1<<25 + 1, 1 << 49, limit - 1, limit, limit + 1, 1 << 62, math.MaxInt}
	for _, n := range slices.Clone(l) {
		l = append(l, -n)
	}
	return append(l, math.MinInt)
}

func isNumber(n int) bool {
	return n >= -limit && n <= limit
}

// expected is what an operation on two arguments must return whose exact result is known.
func expected(a, b int, exact *big.Int) (int, api.Errno) {
	if !isNumber(a) || !isNumber(b) {
		return 0, api.ErrRange
	}
	if exact.CmpAbs(big.NewInt(limit)) > 0 {
		return 0, api.ErrBig
	}
	return int(exact.Int64()), api.OK
}

type binary func(a, b int) (int, api.Errno)

func checkBinary(t *testing.T, name string, f binary, a, b, want int, wantErr api.Errno) {
	t.Helper()
	if got, err := f(a, b); got != want || err != wantErr {
		t.Errorf("%s(%d, %d) = %d, %d, want %d, %d", name, a, b, got, err, want, wantErr)
	}
}

// P1.1

func TestAdd(t *testing.T) {
	for _, c := range []struct {
		a, b, want int
		err        api.Errno
	}{
		{2, 3, 5, api.OK},
		{-2, 3, 1, api.OK},
		{limit, 0, limit, api.OK},
		{limit - 1, 1, limit, api.OK},
		{limit, 1, 0, api.ErrBig},
		{-limit + 1, -1, -limit, api.OK},
		{-limit, -1, 0, api.ErrBig},
		{limit, -limit, 0, api.OK},
		{limit, limit, 0, api.ErrBig},
		{limit + 1, 0, 0, api.ErrRange},
		{0, limit + 1, 0, api.ErrRange},
		{-limit - 1, 0, 0, api.ErrRange},
		{0, -limit - 1, 0, api.ErrRange},
		{limit + 1, -1, 0, api.ErrRange},
		{limit + 1, limit, 0, api.ErrRange},
		{math.MaxInt, math.MaxInt, 0, api.ErrRange},
		{math.MinInt, math.MinInt, 0, api.ErrRange},
	} {
		checkBinary(t, "Add", number.Add, c.a, c.b, c.want, c.err)
	}
}

func TestMul(t *testing.T) {
	for _, c := range []struct {
		a, b, want int
		err        api.Errno
	}{
		{2, 3, 6, api.OK},
		{-2, 3, -6, api.OK},
		{-2, -3, 6, api.OK},
		{0, limit, 0, api.OK},
		{limit, 0, 0, api.OK},
		{limit, -1, -limit, api.OK},
		{1 << 25, 1 << 25, limit, api.OK},
		{-1 << 25, 1 << 25, -limit, api.OK},
		{1<<25 + 1, 1 << 25, 0, api.ErrBig},
		{-1<<25 - 1, 1 << 25, 0, api.ErrBig},
		{1<<25 + 1, 1<<25 - 1, limit - 1, api.OK},
		// 2^50 + 1 is 5 times 225179981368525.
		{5, 225179981368525, 0, api.ErrBig},
		{-5, 225179981368525, 0, api.ErrBig},
		{5, 225179981368524, limit - 4, api.OK},
		{1 << 49, 2, limit, api.OK},
		{1 << 49, 3, 0, api.ErrBig},
		// The product is 0 modulo 2^64.
		{1 << 32, 1 << 32, 0, api.ErrBig},
		{limit, limit, 0, api.ErrBig},
		{limit + 1, 0, 0, api.ErrRange},
		{0, limit + 1, 0, api.ErrRange},
		{-limit - 1, 0, 0, api.ErrRange},
		{0, -limit - 1, 0, api.ErrRange},
		{math.MinInt, -1, 0, api.ErrRange},
		{-1, math.MinInt, 0, api.ErrRange},
	} {
		checkBinary(t, "Mul", number.Mul, c.a, c.b, c.want, c.err)
	}
}

func TestAddMulAgainstBigIntegers(t *testing.T) {
	for _, a := range samples() {
		for _, b := range samples() {
			x, y := big.NewInt(int64(a)), big.NewInt(int64(b))
			want, err := expected(a, b, new(big.Int).Add(x, y))
			checkBinary(t, "Add", number.Add, a, b, want, err)
			want, err = expected(a, b, new(big.Int).Mul(x, y))
			checkBinary(t, "Mul", number.Mul, a, b, want, err)
		}
	}
}

// P1.2

func repeat(n, times int) []int {
	return slices.Repeat([]int{n}, times)
}

func TestSum(t *testing.T) {
	for i, c := range []struct {
		l    []int
		want int
		err  api.Errno
	}{
		{nil, 0, api.OK},
		{[]int{}, 0, api.OK},
		{[]int{7}, 7, api.OK},
		{[]int{1, 2, -4}, -1, api.OK},
		{[]int{limit}, limit, api.OK},
		{[]int{limit, 1}, 0, api.ErrBig},
		{[]int{-limit, -1}, 0, api.ErrBig},
		{[]int{limit, limit, -limit}, limit, api.OK},
		{[]int{-limit, -limit, limit}, -limit, api.OK},
		{[]int{limit, 1, -1}, limit, api.OK},
		{slices.Concat(repeat(limit, 500), repeat(-limit, 500)), 0, api.OK},
		{slices.Concat(repeat(limit, 500), repeat(-limit, 499)), limit, api.OK},
		{slices.Concat(repeat(limit, 500), repeat(-limit, 499), []int{1}), 0, api.ErrBig},
		{repeat(limit, 1000), 0, api.ErrBig},
		{repeat(-limit, 1000), 0, api.ErrBig},
		{repeat(1, 1000), 1000, api.OK},
		{repeat(1, 1001), 0, api.ErrFull},
		{repeat(limit+1, 1001), 0, api.ErrFull},
		{slices.Concat(repeat(limit, 999), []int{limit + 1}), 0, api.ErrRange},
		{[]int{limit + 1, -1}, 0, api.ErrRange},
		{[]int{limit, limit, limit + 1}, 0, api.ErrRange},
		{[]int{1, -limit - 1}, 0, api.ErrRange},
		{[]int{math.MinInt, math.MinInt}, 0, api.ErrRange},
		{[]int{math.MaxInt, math.MinInt, 1}, 0, api.ErrRange},
	} {
		before := slices.Clone(c.l)
		if got, err := number.Sum(c.l); got != c.want || err != c.err {
			t.Errorf("%d: Sum = %d, %d, want %d, %d", i, got, err, c.want, c.err)
		}
		if !slices.Equal(before, c.l) {
			t.Errorf("%d: Sum changed its argument", i)
		}
	}
}

// P1.3

func TestFloor(t *testing.T) {
	for _, c := range []struct {
		a, b, want int
		err        api.Errno
	}{
		{7, 2, 3, api.OK},
		{-7, 2, -4, api.OK},
		{7, -2, -4, api.OK},
		{-7, -2, 3, api.OK},
		{6, 3, 2, api.OK},
		{-6, 3, -2, api.OK},
		{6, -3, -2, api.OK},
		{-6, -3, 2, api.OK},
		{0, 5, 0, api.OK},
		{0, -5, 0, api.OK},
		{1, limit, 0, api.OK},
		{-1, limit, -1, api.OK},
		{1, -limit, -1, api.OK},
		{limit, 1, limit, api.OK},
		{limit, -1, -limit, api.OK},
		{-limit, -1, limit, api.OK},
		{limit, limit, 1, api.OK},
		{1, 0, 0, api.ErrRange},
		{0, 0, 0, api.ErrRange},
		{limit + 1, 1, 0, api.ErrRange},
		{-limit - 1, 1, 0, api.ErrRange},
		{1, limit + 1, 0, api.ErrRange},
		{1, -limit - 1, 0, api.ErrRange},
		{math.MinInt, -1, 0, api.ErrRange},
		{math.MinInt, 0, 0, api.ErrRange},
	} {
		checkBinary(t, "Floor", number.Floor, c.a, c.b, c.want, c.err)
	}
}

func TestGcd(t *testing.T) {
	for _, c := range []struct {
		a, b, want int
		err        api.Errno
	}{
		{-12, 18, 6, api.OK},
		{12, -18, 6, api.OK},
		{-12, -18, 6, api.OK},
		{7, 5, 1, api.OK},
		{0, 0, 0, api.OK},
		{0, 5, 5, api.OK},
		{0, -5, 5, api.OK},
		{-5, 0, 5, api.OK},
		{limit, limit, limit, api.OK},
		{-limit, 0, limit, api.OK},
		{limit, 1 << 49, 1 << 49, api.OK},
		{limit, limit - 1, 1, api.OK},
		{limit + 1, 1, 0, api.ErrRange},
		{1, limit + 1, 0, api.ErrRange},
		{-limit - 1, 1, 0, api.ErrRange},
		{1, -limit - 1, 0, api.ErrRange},
		{math.MinInt, 0, 0, api.ErrRange},
		{0, math.MinInt, 0, api.ErrRange},
	} {
		checkBinary(t, "Gcd", number.Gcd, c.a, c.b, c.want, c.err)
	}
}

// greatestDivisor finds the greatest common divisor by the definition.
func greatestDivisor(a, b int) int {
	for d := max(a, -a, b, -b); d > 0; d-- {
		if a%d == 0 && b%d == 0 {
			return d
		}
	}
	return 0
}

func TestGcdByItsDefinition(t *testing.T) {
	for a := -40; a <= 40; a++ {
		for b := -40; b <= 40; b++ {
			checkBinary(t, "Gcd", number.Gcd, a, b, greatestDivisor(a, b), api.OK)
		}
	}
}

// P1.4

func TestChoose(t *testing.T) {
	for _, c := range []struct {
		n, k, want int
		err        api.Errno
	}{
		{0, 0, 1, api.OK},
		{1, 0, 1, api.OK},
		{1, 1, 1, api.OK},
		{5, 2, 10, api.OK},
		{10, 5, 252, api.OK},
		{1000, 0, 1, api.OK},
		{1000, 1000, 1, api.OK},
		{1000, 1, 1000, api.OK},
		{1000, 999, 1000, api.OK},
		{1000, 2, 499500, api.OK},
		{52, 26, 495918532948104, api.OK},
		{53, 26, 973469712824056, api.OK},
		{54, 27, 0, api.ErrBig},
		{1000, 500, 0, api.ErrBig},
		{3, 4, 0, api.ErrRange},
		{3, -1, 0, api.ErrRange},
		{0, 1, 0, api.ErrRange},
		{-1, 0, 0, api.ErrRange},
		{-1, -1, 0, api.ErrRange},
		{1001, 0, 0, api.ErrRange},
		{1001, 500, 0, api.ErrRange},
		{1000, 1001, 0, api.ErrRange},
		{limit + 1, 1, 0, api.ErrRange},
		{5, math.MinInt, 0, api.ErrRange},
		{math.MaxInt, math.MaxInt, 0, api.ErrRange},
		{math.MinInt, math.MinInt, 0, api.ErrRange},
	} {
		checkBinary(t, "Choose", number.Choose, c.n, c.k, c.want, c.err)
	}
}

// The whole triangle of Pascal, in which all entries that exceed the limit are limit + 1.
func TestChooseByPascal(t *testing.T) {
	row := []int{1}
	for n := 0; n <= 1000; n++ {
		for k, want := range row {
			if want > limit {
				checkBinary(t, "Choose", number.Choose, n, k, 0, api.ErrBig)
			} else {
				checkBinary(t, "Choose", number.Choose, n, k, want, api.OK)
			}
		}
		next := append(slices.Clone(row), 1)
		for k := 1; k <= n; k++ {
			next[k] = min(row[k-1]+row[k], limit+1)
		}
		row = next
	}
}

// P1.5

func TestText(t *testing.T) {
	for _, c := range []struct {
		n    int
		want string
		err  api.Errno
	}{
		{0, "0", api.OK},
		{7, "7", api.OK},
		{10, "10", api.OK},
		{-10, "-10", api.OK},
		{limit, "1125899906842624", api.OK},
		{-limit, "-1125899906842624", api.OK},
		{limit + 1, "", api.ErrRange},
		{-limit - 1, "", api.ErrRange},
		{math.MaxInt, "", api.ErrRange},
		{math.MinInt, "", api.ErrRange},
	} {
		if got, err := number.Text(c.n); got != c.want || err != c.err {
			t.Errorf("Text(%d) = %q, %d, want %q, %d", c.n, got, err, c.want, c.err)
		}
	}
}

func checkParse(t *testing.T, s string, want int, wantErr api.Errno) {
	t.Helper()
	if got, err := number.Parse(s); got != want || err != wantErr {
		t.Errorf("Parse(%q) = %d, %d, want %d, %d", s, got, err, want, wantErr)
	}
}

func TestParse(t *testing.T) {
	checkParse(t, "0", 0, api.OK)
	checkParse(t, "7", 7, api.OK)
	checkParse(t, "-1", -1, api.OK)
	checkParse(t, "-100", -100, api.OK)
	checkParse(t, "1125899906842623", limit-1, api.OK)
	checkParse(t, "1125899906842624", limit, api.OK)
	checkParse(t, "-1125899906842624", -limit, api.OK)
}

func TestParseTooBig(t *testing.T) {
	for _, s := range []string{
		"1125899906842625", "-1125899906842625", "9223372036854775807", "-9223372036854775808",
		"9223372036854775808", "18446744073709551616", "18446744073709551617", "-99999999999999999999",
		strings.Repeat("9", 100), "-" + strings.Repeat("9", 99),
	} {
		checkParse(t, s, 0, api.ErrBig)
	}
}

func TestParseMalformed(t *testing.T) {
	for _, s := range []string{
		"", "-", "+", "--1", "-+1", "-0", "+0", "+1", "00", "01", "-01", "-00", "1x", "x1", "1-", "1-1", " 1", "1 ", "1\n", "- 1",
		"1_000", "0x10", "1.0", "1e3", "\x00", "1\x00", "1/", "1:", "\u0661", "\uff11", "\xff", "\u22121",
		strings.Repeat("0", 100), strings.Repeat("9", 99) + "x", "+" + strings.Repeat("9", 99),
	} {
		checkParse(t, s, 0, api.ErrForm)
	}
}

func TestParseTooLong(t *testing.T) {
	for _, s := range []string{
		strings.Repeat("1", 101), "-" + strings.Repeat("1", 100), strings.Repeat("0", 101), strings.Repeat("x", 101), string(make([]byte, 1000)),
	} {
		checkParse(t, s, 0, api.ErrFull)
	}
	// The limit is one of bytes, not of runes.
	checkParse(t, strings.Repeat("\u0661", 51), 0, api.ErrFull)
	checkParse(t, strings.Repeat("\u0661", 50), 0, api.ErrForm)
}

// Among all short strings over some bytes, exactly the texts of integers are parsed.
func TestParseAllShortTexts(t *testing.T) {
	level := []string{""}
	for range 4 {
		var next []string
		for _, s := range level {
			for _, c := range []byte("-+019 x") {
				next = append(next, s+string(c))
			}
		}
		for _, s := range next {
			if n, err := strconv.Atoi(s); err == nil && strconv.Itoa(n) == s {
				checkParse(t, s, n, api.OK)
			} else {
				checkParse(t, s, 0, api.ErrForm)
			}
		}
		level = next
	}
}

// P1.6

// value calls an operation whose result must be a number.
func value(t *testing.T, f binary, a, b int) int {
	t.Helper()
	n, err := f(a, b)
	if err != api.OK {
		t.Errorf("the error %d for %d and %d", err, a, b)
	}
	return n
}

func TestLawsOfSumsAndProducts(t *testing.T) {
	l := []int{0, 1, -1, 2, -3, 10, 1 << 12, -1<<12 - 1, 1<<16 - 1, 1 << 16}
	add := func(a, b int) int { return value(t, number.Add, a, b) }
	mul := func(a, b int) int { return value(t, number.Mul, a, b) }
	for _, a := range l {
		if add(a, 0) != a || mul(a, 1) != a || mul(a, 0) != 0 || add(a, mul(a, -1)) != 0 {
			t.Error(a)
		}
		for _, b := range l {
			if add(a, b) != add(b, a) || mul(a, b) != mul(b, a) {
				t.Error(a, b)
			}
			for _, c := range l {
				sum, err := number.Sum([]int{a, b, c})
				if add(add(a, b), c) != add(a, add(b, c)) || mul(mul(a, b), c) != mul(a, mul(b, c)) || mul(a, add(b, c)) != add(mul(a, b), mul(a, c)) || sum != add(a, add(b, c)) || err != api.OK {
					t.Error(a, b, c)
				}
			}
		}
	}
}

func TestRestOfQuotients(t *testing.T) {
	l := samples()
	for n := -20; n <= 20; n++ {
		l = append(l, n)
	}
	for _, a := range l {
		for _, b := range l {
			if !isNumber(a) || !isNumber(b) || b == 0 {
				checkBinary(t, "Floor", number.Floor, a, b, 0, api.ErrRange)
				continue
			}
			rest := a - b*value(t, number.Floor, a, b)
			if b > 0 && (rest < 0 || rest >= b) || b < 0 && (rest > 0 || rest <= b) {
				t.Errorf("the rest of %d and %d is %d", a, b, rest)
			}
		}
	}
}

func TestTextsAreParsedAsTheirNumbers(t *testing.T) {
	for _, n := range samples() {
		if !isNumber(n) {
			continue
		}
		s, err := number.Text(n)
		if err != api.OK {
			t.Error(n, err)
		}
		checkParse(t, s, n, api.OK)
	}
}

// P1: no arguments make a function panic, and with an error the other result is zero.
func TestAllArguments(t *testing.T) {
	for _, a := range samples() {
		for _, b := range samples() {
			for _, f := range []binary{number.Add, number.Mul, number.Floor, number.Gcd, number.Choose} {
				if n, err := f(a, b); err != api.OK && n != 0 {
					t.Error(a, b, n, err)
				}
			}
			if n, err := number.Sum([]int{a, b, a}); err != api.OK && n != 0 {
				t.Error(a, b, n, err)
			}
		}
		if s, err := number.Text(a); err != api.OK && s != "" {
			t.Error(a, s, err)
		}
		if n, err := number.Parse(strconv.Itoa(a)); err != api.OK && n != 0 {
			t.Error(a, n, err)
		}
	}
}
