package docket_test

import (
	"strings"
	"testing"

	"docket/api"
	"docket/docket"
)

var rising = api.Cells{1, 2, 3, 4, 5, 6, 7, 8}

type applied struct {
	text string
	was  api.Cells
	want api.Cells
}

func wantDone(t *testing.T, cases []applied) {
	t.Helper()
	for _, c := range cases {
		got, done, e := docket.Apply(c.text, c.was)
		if got != c.want || !done || e != api.OK {
			t.Errorf("P3: Apply(%q, %v) = %v, %v, %d, want %v, done", c.text, c.was, got, done, e, c.want)
		}
	}
}

func wantAborted(t *testing.T, was api.Cells, texts []string) {
	t.Helper()
	for _, text := range texts {
		got, done, e := docket.Apply(text, was)
		if got != was || done || e != api.OK {
			t.Errorf("P3: Apply(%q, %v) = %v, %v, %d, want the cells as they were, not done", text, was, got, done, e)
		}
	}
}

func wantErrText(t *testing.T, texts []string) {
	t.Helper()
	for _, text := range texts {
		got, done, e := docket.Apply(text, rising)
		if got != rising || done || e != api.ErrText {
			t.Errorf("P3: Apply(%.80q) = %v, %v, %d, want the cells as they were, ErrText", text, got, done, e)
		}
	}
}

func TestApplyExample(t *testing.T) {
	zero := api.Cells{}
	wantDone(t, []applied{
		{"ab|a=5;b+a;b*b", zero, api.Cells{5, 25}},
		{"a|a=32767;a+1", zero, api.Cells{-32768}},
		{"a|a=300;a*a", zero, api.Cells{24464}},
	})
	wantAborted(t, zero, []string{"a|a=5;b+a", "a|a=7;a<3", "|b~0"})
	wantErrText(t, []string{"|", "a|", "ba|a=1", "a|a=01", "a|a=-0", "a|a=32768", "a|a=1;", "a| a=1", "i|i=1"})
}

func TestApplySigns(t *testing.T) {
	was := api.Cells{7, -3}
	wantDone(t, []applied{
		{"a|a=2", was, api.Cells{2, -3}},
		{"a|a+2", was, api.Cells{9, -3}},
		{"a|a-2", was, api.Cells{5, -3}},
		{"a|a*2", was, api.Cells{14, -3}},
		{"a|a=-2", was, api.Cells{-2, -3}},
		{"a|a+-2", was, api.Cells{5, -3}},
		{"a|a--2", was, api.Cells{9, -3}},
		{"a|a*-2", was, api.Cells{-14, -3}},
		{"a|a*0", was, api.Cells{0, -3}},
		{"a|a<8", was, was},
		{"a|a>6", was, was},
		{"a|a~7", was, was},
		{"b|b<-2", was, was},
		{"b|b>-4", was, was},
		{"b|b~-3", was, was},
	})
	wantAborted(t, was, []string{
		"a|a<7", "a|a<6", "a|a>7", "a|a>8", "a|a~6", "a|a~8", "a|a~-7",
		"b|b<-3", "b|b<-4", "b|b>-3", "b|b>-2", "b|b~3",
	})
}

func TestApplyEveryKey(t *testing.T) {
	for key := 0; key < len(rising); key++ {
		letter := string(rune('a' + key))
		want := rising
		want[key] = 100
		wantDone(t, []applied{{letter + "|" + letter + "=100", rising, want}})
		for other := 0; other < len(rising); other++ {
			if other == key {
				continue
			}
			otherLetter := string(rune('a' + other))
			wantAborted(t, rising, []string{otherLetter + "|" + letter + "=100", otherLetter + "|" + otherLetter + "=" + letter})
		}
	}
}

func TestApplyArgumentIsKey(t *testing.T) {
	wantDone(t, []applied{
		{"ah|a=h", rising, api.Cells{8, 2, 3, 4, 5, 6, 7, 8}},
		{"cg|g-c", rising, api.Cells{1, 2, 3, 4, 5, 6, 4, 8}},
		{"cg|c-g", rising, api.Cells{1, 2, -4, 4, 5, 6, 7, 8}},
		{"cd|c*d;d*c", rising, api.Cells{1, 2, 12, 48, 5, 6, 7, 8}},
		{"d|d=d", rising, rising},
		{"d|d-d", rising, api.Cells{1, 2, 3, 0, 5, 6, 7, 8}},
		{"d|d+d;d+d", rising, api.Cells{1, 2, 3, 16, 5, 6, 7, 8}},
		{"ab|a=9;b=a;a=1", rising, api.Cells{1, 9, 3, 4, 5, 6, 7, 8}},
		{"ab|a<b;b>a;a~a", rising, rising},
		{"ab|a=b;a~b", rising, api.Cells{2, 2, 3, 4, 5, 6, 7, 8}},
	})
	wantAborted(t, rising, []string{"ab|b<a", "ab|a>b", "ab|a~b", "a|a<a", "a|a>a", "ab|a=3;a<b"})
}

func TestApplyComesInAtTheOtherEnd(t *testing.T) {
	low, high := api.Cells{-32768}, api.Cells{32767}
	wantDone(t, []applied{
		{"a|a+1", high, low},
		{"a|a-1", low, high},
		{"a|a--1", high, low},
		{"a|a+-1", low, high},
		{"a|a+a", high, api.Cells{-2}},
		{"a|a+a", low, api.Cells{}},
		{"a|a*-1", low, low},
		{"a|a*a", low, api.Cells{}},
		{"a|a*a", high, api.Cells{1}},
		{"a|a*2", high, api.Cells{-2}},
		{"a|a*-32768", high, low},
		{"a|a-32767", low, api.Cells{1}},
		{"a|a--32768", high, api.Cells{-1}},
		{"a|a--32768", low, api.Cells{}},
		{"ab|b-a", low, api.Cells{-32768, -32768}},
		{"a|a+1;a<0;a-1;a>0", high, high},
	})
}

func TestApplyNumbersAtTheEdges(t *testing.T) {
	wantDone(t, []applied{
		{"a|a=32767", rising, api.Cells{32767, 2, 3, 4, 5, 6, 7, 8}},
		{"a|a=-32768", rising, api.Cells{-32768, 2, 3, 4, 5, 6, 7, 8}},
		{"a|a=-32767", rising, api.Cells{-32767, 2, 3, 4, 5, 6, 7, 8}},
		{"a|a=0", rising, api.Cells{0, 2, 3, 4, 5, 6, 7, 8}},
		{"a|a=-1", rising, api.Cells{-1, 2, 3, 4, 5, 6, 7, 8}},
		{"a|a=10", rising, api.Cells{10, 2, 3, 4, 5, 6, 7, 8}},
		{"a|a=9999", rising, api.Cells{9999, 2, 3, 4, 5, 6, 7, 8}},
	})
	wantErrText(t, []string{
		"a|a=32768", "a|a=-32769", "a|a=40000", "a|a=65536", "a|a=99999", "a|a=-99999", "a|a=100000", "a|a=-100000",
		"a|a=4294967296", "a|a=18446744073709551616", "a|a=18446744073709551617", "a|a=-18446744073709551617",
		"a|a=00", "a|a=01", "a|a=-0", "a|a=-01", "a|a=-00", "a|a=000001", "a|a=+1", "a|a=--1", "a|a=1-", "a|a=-",
		"a|a=1.", "a|a=1e1", "a|a=0x1", "a|a=1_0", "a|a=/", "a|a=:", "a|a=1/", "a|a=1:", "a|a=-a",
	})
}

func TestApplyLengthAtTheEdges(t *testing.T) {
	sixty := "abcdefgh|a=-12345;a=-12345;a=-12345;a=-12345;a=-12345;a=-123"
	full := "abcdefgh|a=-123;a+100;a+100;a=-99;a=1234;b=1234;c=1234;d=100"
	if len(sixty) != api.MaxText || len(full) != api.MaxText {
		t.Fatalf("the texts have %d and %d bytes, want %d", len(sixty), len(full), api.MaxText)
	}
	wantDone(t, []applied{
		{sixty, rising, api.Cells{-123, 2, 3, 4, 5, 6, 7, 8}},
		{sixty[:59], rising, api.Cells{-12, 2, 3, 4, 5, 6, 7, 8}},
		{full, rising, api.Cells{1234, 1234, 1234, 100, 5, 6, 7, 8}},
	})
	wantErrText(t, []string{sixty + "4", full + "0", sixty + ";", "", strings.Repeat("a", 61), strings.Repeat("a|a=1;", 200000)})
}

func TestApplyCountOfOperationsAtTheEdges(t *testing.T) {
	one := "a|a+1"
	eight := one + strings.Repeat(";a+1", 7)
	wantDone(t, []applied{
		{one, api.Cells{}, api.Cells{1}},
		{one + ";a+1", api.Cells{}, api.Cells{2}},
		{eight, api.Cells{}, api.Cells{8}},
	})
	wantErrText(t, []string{"|", "a|", "abcdefgh|", eight + ";", eight + ";a+1", eight + ";a+1;a+1"})
}

func TestApplyAborts(t *testing.T) {
	wantAborted(t, rising, []string{
		"|a=1", "|a~1", "|a~a", "|h=0",
		"a|b=1", "a|a=b", "b|a=b", "b|a~b", "ac|a=b", "ac|b=a",
		"a|a=9;b=1", "a|a=9;a=b", "a|a=9;a+1;a<b",
		"ab|a=9;b=9;a~8", "ab|a=9;b=9;a~8;a=1", "ab|a~2;a=9;b=9",
		"a|a~2;b=1", "a|b=1;a~2",
		"abcdefgh|a=9;b=9;c=9;d=9;e=9;f=9;g=9;h~9",
	})
	wantDone(t, []applied{{"abcdefgh|a=9;b=9;c=9;d=9;e=9;f=9;g=9;h~8", rising, api.Cells{9, 9, 9, 9, 9, 9, 9, 8}}})
}

func TestApplyWrongTexts(t *testing.T) {
	wantErrText(t, []string{
		"", "a", "a=1", "ab", ";", "||", "a||a=1", "a|a=1|", "|a=1|a=1", "a;a=1", ":a=1",
		"aa|a=1", "ba|a=1", "abb|a=1", "aba|a=1", "hgfedcba|a=1", "abcdefghi|a=1", "i|a=1", "`|a=1", "A|a=1", "a |a=1", " a|a=1", "a,b|a=1", "1|a=1",
		"a|i=1", "a|`=1", "a|A=1", "a|1=1", "a|a=i", "a|a=`", "a|a=A", "a|a=bb", "a|a=b1", "a|a=1b",
		"a|a", "a|a=", "a|=1", "a|1", "a|a1", "a|aa", "a|a/2", "a|a%2", "a|a==1", "a|a<=1", "a|a!1", "a|a,1",
		"a|;", "a|;a=1", "a|a=1;", "a|a=1;;a=1", "a|a=1,a=1", "a|a=1 ;a=1", "a|a=1; a=1", "a|a =1", "a|a= 1", "a|a=1 ", "a|a=1\n", "a|a=1\x00", "a|a=\x00",
		"\x00", "\xff|a=1", "a|a=\xff", "é|a=1", "a|a=١", "a|а=1",
		// Nothing of a text that goes wrong late is done.
		"a|a=9;a=x", "a|b=9;a=x", "a|a~9;a=x",
	})
}
