package transaction

import (
	"testing"

	"docket/api"
)

func TestParseThenDoMoreThanOnce(t *testing.T) {
	read, ok := Parse("ab|a+1;b=a;b<3")
	if !ok {
		t.Fatal("Parse refuses a transaction")
	}
	once, done := read.Do(api.Cells{})
	if once != (api.Cells{1, 1}) || !done {
		t.Errorf("Do on cells that are 0 = %v, %v", once, done)
	}
	twice, done := read.Do(once)
	if twice != (api.Cells{2, 2}) || !done {
		t.Errorf("Do on %v = %v, %v", once, twice, done)
	}
	thrice, done := read.Do(twice)
	if thrice != twice || done {
		t.Errorf("Do on %v = %v, %v, want it aborted and the cells as they were", twice, thrice, done)
	}
}

func TestParseRefuses(t *testing.T) {
	for _, text := range []string{"", "|", "a|", "ba|a=1", "a|a=1;", "a|a=x"} {
		read, ok := Parse(text)
		if ok || len(read.ops) > 0 || read.keys != [keyCount]bool{} {
			t.Errorf("Parse(%q) = %v, %v, want nothing", text, read, ok)
		}
	}
}

func TestCost(t *testing.T) {
	for _, c := range []struct {
		text string
		cost int
	}{
		{"|b~0", 1}, {"abcdefgh|a=1", 1}, {"a|a=1;a<3", 2}, {"ab|a=5;b+a;b*b", 3}, {"a|a=1;a=1;a=1;a=1;a=1;a=1;a=1", 7}, {"a|b=1;b=1;b=1;b=1;b=1;b=1;b=1;b=1", 8},
	} {
		read, ok := Parse(c.text)
		if cost := read.Cost(); !ok || cost != c.cost {
			t.Errorf("the cost of %q is %d, want %d", c.text, cost, c.cost)
		}
	}
}
