package topics

import (
	"strings"
	"testing"
)

const bytes30 = "123456789012345678901234567890"

func TestNames(t *testing.T) {
	for _, c := range []struct {
		s                   string
		name, topic, filter bool
	}{
		{"", true, false, false},
		{"a", true, true, true},
		{"/", true, true, true},
		{"a//b/", true, true, true},
		{"$x", true, true, true},
		{" ", true, true, true},
		{"\x01\x7f", true, true, true},
		{"\ufffd", true, true, true},
		{"\x00", false, false, false},
		{"a\x00b", false, false, false},
		{"\xff", false, false, false},
		{"a\xc3", false, false, false},
		{"\xed\xa0\x80", false, false, false}, // half of a surrogate pair
		{"\xc0\x80", false, false, false},     // 0 in more bytes than it needs
		{"+", true, false, true},
		{"#", true, false, true},
		{"a/+", true, false, true},
		{"+/a/+/#", true, false, true},
		{"/#", true, false, true},
		{"a+", true, false, false},
		{"+a/b", true, false, false},
		{"++", true, false, false},
		{"+#", true, false, false},
		{"#+", true, false, false},
		{"##", true, false, false},
		{"a#", true, false, false},
		{"#a", true, false, false},
		{"#/", true, false, false},
		{"#/#", true, false, false},
		{"a/#/b", true, false, false},
		{bytes30, true, true, true},
		{bytes30 + "1", true, false, false},
		{bytes30[:28] + "/#", true, false, true},
		{bytes30[:29] + "/#", true, false, false},
		{strings.Repeat("é", 15), true, true, true},
		{strings.Repeat("é", 15) + "a", true, false, false}, // 16 runes, but 31 bytes
	} {
		if got := IsName(c.s); got != c.name {
			t.Errorf("IsName(%q) = %v", c.s, got)
		}
		if got := IsTopic(c.s); got != c.topic {
			t.Errorf("IsTopic(%q) = %v", c.s, got)
		}
		if got := IsFilter(c.s); got != c.filter {
			t.Errorf("IsFilter(%q) = %v", c.s, got)
		}
	}
}

func TestMatch(t *testing.T) {
	for _, c := range []struct {
		filter, topic string
		want          bool
	}{
		{"a/b", "a/b", true},
		{"a/b", "a/bb", false},
		{"a", "a/", false},
		{"a/", "a", false},
		{"a/+/c", "a/b/c", true},
		{"a/+/c", "a//c", true},
		{"a/+/c", "a/b/d", false},
		{"+", "a", true},
		{"+", "a/b", false},
		{"+/+", "a", false},
		{"#", "/", true},
		{"a/#", "a", true},
		{"a/#", "a/", true},
		{"a/#", "a/b/c/d", true},
		{"a/#", "ab", false},
		{"+/#", "a", true},
		{"a/+/#", "a", false},
		{"a/+/#", "a/b", true},
		{"#", "$", false},
		{"+", "$x", false},
		{"+/y", "$x/y", false},
		{"$x", "$x", true},
		{"$x/+", "$x/y", true},
		{"/+", "/$x", true},
		{"#", "a/$x", true},
		{"a/+", "a/$x", true},
		{"é/+", "é/ü", true},
		{"é", "e", false},
		{bytes30, bytes30, true},
		{bytes30 + "1", bytes30 + "1", false},
		{"#", bytes30, true},
		{"#", bytes30 + "1", false},
		{"", "", false},
		{"#", "", false},
		{"", "a", false},
		{"+", "+", false},
		{"#", "#", false},
		{"a+", "a+", false},
		{"#/a", "#/a", false},
		{"\xff", "\xff", false},
		{"#", "a\x00", false},
	} {
		if got := Match(c.filter, c.topic); got != c.want {
			t.Errorf("Match(%q, %q) = %v", c.filter, c.topic, got)
		}
	}
}

// slow is the matching of levels told another way: from the left, a level at
// a time, on texts that are a filter and a topic.
func slow(filter, topic string) bool {
	first, filterRest, filterMore := strings.Cut(filter, "/")
	if first == "#" {
		return true
	}
	level, topicRest, topicMore := strings.Cut(topic, "/")
	if first != "+" && first != level {
		return false
	}
	switch {
	case filterMore && topicMore:
		return slow(filterRest, topicRest)
	case filterMore:
		return filterRest == "#"
	}
	return !topicMore
}

// words are all texts of 1 to most letters of the alphabet.
func words(alphabet string, most int) []string {
	all, longest := []string{}, []string{""}
	for range most {
		var next []string
		for _, w := range longest {
			for _, c := range alphabet {
				next = append(next, w+string(c))
			}
		}
		all = append(all, next...)
		longest = next
	}
	return all
}

func TestMatchAllShort(t *testing.T) {
	all := words("a/+#$", 4)
	for _, filter := range all {
		for _, topic := range all {
			want := IsFilter(filter) && IsTopic(topic) && slow(filter, topic) &&
				!(topic[0] == '$' && (filter[0] == '+' || filter[0] == '#'))
			if got := Match(filter, topic); got != want {
				t.Fatalf("Match(%q, %q) = %v", filter, topic, got)
			}
		}
	}
}
