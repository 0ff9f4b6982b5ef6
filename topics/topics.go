// Package topics: names, topics and filters, and when a filter matches a topic.
package topics

import (
	"strings"
	"unicode/utf8"

	"courant/api"
)

const (
	slash   = "/"
	oneAny  = "+"
	manyAny = "#"
	hidden  = "$" // what begins so is kept from filters that begin with a wildcard
)

// IsName tells whether a text may stand as a name.
func IsName(s string) bool {
	return utf8.ValidString(s) && strings.IndexByte(s, 0) < 0
}

// IsTopic tells whether a text is a topic.
func IsTopic(s string) bool {
	return fits(s) && !strings.ContainsAny(s, oneAny+manyAny)
}

// IsFilter tells whether a text is a filter.
func IsFilter(s string) bool {
	if !fits(s) {
		return false
	}
	levels := strings.Split(s, slash)
	for i, level := range levels {
		if !isFilterLevel(level, i == len(levels)-1) {
			return false
		}
	}
	return true
}

// Match tells whether a filter matches a topic; what is no filter matches
// nothing, and what is no topic is matched by none.
func Match(filter, topic string) bool {
	if !IsFilter(filter) || !IsTopic(topic) {
		return false
	}
	if strings.HasPrefix(topic, hidden) && beginsWild(filter) {
		return false
	}
	return matchLevels(strings.Split(filter, slash), strings.Split(topic, slash))
}

// The length is asked first, so that a huge text is not read through.
func fits(s string) bool {
	return len(s) >= 1 && len(s) <= api.MaxTopic && IsName(s)
}

func isFilterLevel(level string, last bool) bool {
	if strings.Contains(level, manyAny) {
		return level == manyAny && last
	}
	return level == oneAny || !strings.Contains(level, oneAny)
}

func beginsWild(filter string) bool {
	return strings.HasPrefix(filter, oneAny) || strings.HasPrefix(filter, manyAny)
}

func matchLevels(filter, topic []string) bool {
	for i, level := range filter {
		if level == manyAny {
			return true
		}
		if i >= len(topic) || level != oneAny && level != topic[i] {
			return false
		}
	}
	return len(filter) == len(topic)
}
