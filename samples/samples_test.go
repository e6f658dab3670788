package samples_test

import (
	"slices"
	"testing"

	"cobweb/samples"
)

func TestTexts(t *testing.T) {
	want := []string{"", "a", "bc", "aa", "abc", "bca", "bcbc"}
	if got := samples.Texts(2, "a", "bc"); !slices.Equal(got, want) {
		t.Errorf("Texts: %q", got)
	}
	if got := samples.Texts(0, "a"); !slices.Equal(got, []string{""}) {
		t.Errorf("Texts of none of the pieces: %q", got)
	}
}

func TestCuttings(t *testing.T) {
	want := [][]string{{"ab"}, {"", "ab"}, {"", "", "ab"}, {"", "a", "b"}, {"", "ab", ""}, {"a", "b"}, {"a", "", "b"}, {"a", "b", ""}, {"ab", ""}, {"ab", "", ""}}
	if got := samples.Cuttings("ab"); !slices.EqualFunc(got, want, slices.Equal) {
		t.Errorf("Cuttings: %q", got)
	}
	if got := samples.Cuttings(""); !slices.EqualFunc(got, [][]string{{""}, {"", ""}, {"", "", ""}}, slices.Equal) {
		t.Errorf("Cuttings of nothing: %q", got)
	}
}

func TestDice(t *testing.T) {
	one, other := samples.Dice(7), samples.Dice(7)
	counts := make([]int, 6)
	for range 6000 {
		n := one(6)
		if n != other(6) {
			t.Fatal("two dice of one seed don't go alike")
		}
		counts[n]++
	}
	if slices.Min(counts) < 800 {
		t.Errorf("the numbers don't lie about: %v", counts)
	}
}
