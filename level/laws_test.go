package level_test

import (
	"fmt"
	"math/big"
	"math/rand"
	"testing"

	"luminaire/api"
	"luminaire/level"
	"luminaire/ratio"
)

// rounded returns a number rounded half up.
func rounded(v *big.Rat) int {
	doubled := new(big.Int).Mul(v.Num(), big.NewInt(2))
	doubled.Add(doubled, v.Denom())
	return int(doubled.Div(doubled, new(big.Int).Mul(v.Denom(), big.NewInt(2))).Int64())
}

// percentages returns all percentages with a number of decimals in ascending order, and their levels.
func percentages(decimals int) (texts []string, levels []int) {
	unit := [...]int{1, 10, 100, 1000}[decimals]
	for n := 0; n <= 100*unit; n++ {
		text := fmt.Sprint(n / unit)
		if decimals > 0 {
			text += fmt.Sprintf(".%0*d", decimals, n%unit)
		}
		texts = append(texts, text)
		levels = append(levels, rounded(big.NewRat(int64(n)*api.MaxLevel, int64(100*unit))))
	}
	return texts, levels
}

func TestPercentOfAllPercentages(t *testing.T) {
	for decimals := range 4 {
		texts, levels := percentages(decimals)
		for i, text := range texts {
			if got, e := level.Percent(text); got != levels[i] || e != api.OK {
				t.Errorf("Percent(%q): got %d, %d, want %d", text, got, e, levels[i])
			}
		}
	}
}

// TestTextOfAllLevels looks for the text of each level among all percentages, those with few decimals first.
func TestTextOfAllLevels(t *testing.T) {
	shortest := map[int]string{api.MaxLevel: "full"}
	for decimals := range 4 {
		texts, levels := percentages(decimals)
		for i, text := range texts {
			if _, found := shortest[levels[i]]; !found {
				shortest[levels[i]] = text
			}
		}
	}
	for v := range api.MaxLevel + 1 {
		text, e := level.Text(v)
		if text != shortest[v] || e != api.OK {
			t.Errorf("Text(%d): got %q, %d, want %q", v, text, e, shortest[v])
		}
		if back, e := level.Percent(text); back != v || e != api.OK {
			t.Errorf("Percent(%q): got %d, %d, want %d", text, back, e, v)
		}
	}
}

// TestRawValuesAreNearest checks all levels, the halves between them, and that raw values never descend.
func TestRawValuesAreNearest(t *testing.T) {
	lastEight, lastSixteen := 0, 0
	for n := range 2*api.MaxLevel + 1 {
		v, _ := ratio.Part(n, 2)
		eight, e := level.Eight(v)
		if want := rounded(big.NewRat(int64(n)*255, 2*api.MaxLevel)); eight != want || e != api.OK {
			t.Errorf("Eight(%q): got %d, %d, want %d", v, eight, e, want)
		}
		sixteen, e := level.Sixteen(v)
		if want := rounded(big.NewRat(int64(n), 2)); sixteen != want || e != api.OK {
			t.Errorf("Sixteen(%q): got %d, %d, want %d", v, sixteen, e, want)
		}
		if eight < lastEight || sixteen < lastSixteen {
			t.Errorf("the raw values descend at %q", v)
		}
		lastEight, lastSixteen = eight, sixteen
	}
}

func TestRawValuesOfFractions(t *testing.T) {
	r := rand.New(rand.NewSource(1))
	for range 3000 {
		den := 1 + r.Intn(100000)
		num := r.Intn(api.MaxLevel*den + 1)
		if r.Intn(2) == 0 { // near the middle of two raw values
			num = min((2*r.Intn(256)+1)*257*den/2+r.Intn(3), api.MaxLevel*den)
		}
		v, _ := ratio.Part(num, den)
		exact := big.NewRat(int64(num), int64(den))
		if got, e := level.Sixteen(v); got != rounded(exact) || e != api.OK {
			t.Errorf("Sixteen(%q): got %d, %d, want %d", v, got, e, rounded(exact))
		}
		exact.Quo(exact, big.NewRat(257, 1))
		if got, e := level.Eight(v); got != rounded(exact) || e != api.OK {
			t.Errorf("Eight(%q): got %d, %d, want %d", v, got, e, rounded(exact))
		}
	}
}

func TestRawValuesComeBack(t *testing.T) {
	for raw := range 256 {
		v, e := level.Of(raw, 8)
		if back, f := level.Eight(ratio.Whole(v)); v != 257*raw || back != raw || e+f != api.OK {
			t.Errorf("the raw value %d of 8 bits has the level %d, and this the raw value %d", raw, v, back)
		}
	}
	for raw := range api.MaxLevel + 1 {
		v, e := level.Of(raw, 16)
		if back, f := level.Sixteen(ratio.Whole(v)); back != raw || e+f != api.OK {
			t.Errorf("the raw value %d of 16 bits has the level %d, and this the raw value %d", raw, v, back)
		}
		coarse, fine, e := level.Split(raw)
		if back, f := level.Join(coarse, fine); back != raw || coarse != raw/256 || fine != raw%256 || e+f != api.OK {
			t.Errorf("the raw value %d has the bytes %d and %d, and these the raw value %d", raw, coarse, fine, back)
		}
	}
}

func TestScalingLaws(t *testing.T) {
	for v := range api.MaxLevel + 1 {
		same, e := level.Scale(v, api.MaxLevel)
		none, f := level.Scale(v, 0)
		if same != v || none != 0 || e+f != api.OK {
			t.Errorf("%d is scaled by MaxLevel to %d, and by 0 to %d", v, same, none)
		}
	}
	r := rand.New(rand.NewSource(2))
	for range 5000 {
		v, by := r.Intn(api.MaxLevel+1), r.Intn(api.MaxLevel+1)
		want := rounded(big.NewRat(int64(v)*int64(by), api.MaxLevel))
		if got, e := level.Scale(v, by); got != want || e != api.OK {
			t.Errorf("Scale(%d, %d): got %d, %d, want %d", v, by, got, e, want)
		}
		if got, e := level.Scale(by, v); got != want || e != api.OK {
			t.Errorf("Scale(%d, %d): got %d, %d, want %d", by, v, got, e, want)
		}
	}
}
