package messages

import (
	"slices"
	"strings"

	"courant/api"
	"courant/topics"
)

// Retained messages, at most one of each topic. They stand by their topics,
// since that is the order in which they are told.
type Retained struct {
	sorted []Message
}

// Keep retains a message in place of that of its topic, if there is room; one
// without a payload only takes away what was retained.
func (r *Retained) Keep(m Message) {
	i, found := slices.BinarySearchFunc(r.sorted, m.Topic, compareTopic)
	switch {
	case m.Payload == "":
		if found {
			r.sorted = slices.Delete(r.sorted, i, i+1)
		}
	case found:
		r.sorted[i] = m
	case len(r.sorted) < api.MaxRetained:
		r.sorted = slices.Insert(r.sorted, i, m)
	}
}

// Matching tells the messages whose topics a filter matches, by their topics.
func (r *Retained) Matching(filter string) []Message {
	var found []Message
	for _, m := range r.sorted {
		if topics.Match(filter, m.Topic) {
			found = append(found, m)
		}
	}
	return found
}

func compareTopic(m Message, topic string) int { return strings.Compare(m.Topic, topic) }
