package samples_test

import (
	"slices"
	"testing"

	"cobweb/samples"
)

func TestTexts(t *testing.T) {
	want := []string{"", "a", "bc", "aa", "abc", "bca", "bcbc"}
	if got := samples.Texts(2, "a", "bc"); !slices.Equal(got, want) {
		t.Errorf("Texts: %q", got)
	}
	if got := samples.Texts(0, "a"); !slices.Equal(got, []string{""}) {
		t.Errorf("Texts of none of the pieces: %q", got)
	}
}
