package table

import (
	"strings"
	"testing"
)

func TestMerge(t *testing.T) { // P5.3
	rows := []struct {
		tables []string
		want   string
	}{
		{nil, ""},
		{[]string{""}, ""},
		{[]string{"", "", ""}, ""},
		{[]string{"a=1"}, "a=1"},
		{[]string{"a=1 b!2 c=3"}, "a=1 b!2 c=3"},
		{[]string{"a=1", "b=2", "c=3"}, "a=1 b=2 c=3"},
		{[]string{"c=3", "b=2", "a=1"}, "a=1 b=2 c=3"},
		{[]string{"a=1 b=2", "a=3 b=4"}, "a=1 b=2"},
		{[]string{"a=3 b=4", "a=1 b=2"}, "a=3 b=4"},
		{[]string{"a=1", "a=2", "a=3", "a=4", "a=5"}, "a=1"},
		{[]string{"b=1", "a=2 b=2", "a=3 b=3 c=3"}, "a=2 b=1 c=3"},
		{[]string{"a!", "a=1"}, "a!"},
		{[]string{"a=1", "a!"}, "a=1"},
		{[]string{"a!1", "a!2 b!"}, "a!1 b!"},
		{[]string{"=1", "a=2", "=3"}, "=1 a=2"},
		{[]string{"a=1 c=1 e=1", "", "b=2 c=2 d=2 f=2", "", "c=3 g=3"}, "a=1 b=2 c=1 d=2 e=1 f=2 g=3"},
		{[]string{"a=1 aa=1 b=1", "a=2 ab=2 b=2"}, "a=1 aa=1 ab=2 b=1"},
	}
	for _, r := range rows {
		want(t, "Merge("+strings.Join(r.tables, "; ")+")", text(Merge(tablesOf(t, r.tables...)...)), r.want)
	}
}

func TestMergeOfNil(t *testing.T) { // P5.3: nil tables have none
	a, b := tableOf(t, "a=1 c=1"), tableOf(t, "a=2 b=2")
	for _, l := range [][]*Table{{nil}, {nil, nil, nil}} {
		want(t, "Merge of nil tables", text(Merge(l...)), "")
	}
	for _, l := range [][]*Table{{nil, a, b}, {a, nil, b}, {a, b, nil}, {nil, a, nil, nil, b, nil}} {
		want(t, "Merge with nil tables", text(Merge(l...)), "a=1 b=2 c=1")
	}
}

func TestMergeOfTheSameTable(t *testing.T) { // P5.3
	a, b := tableOf(t, "a=1 c=1"), tableOf(t, "a=2 b=2")
	want(t, "Merge(a, a)", text(Merge(a, a)), "a=1 c=1")
	want(t, "Merge(b, a, b, a)", text(Merge(b, a, b, a)), "a=2 b=2 c=1")
}
