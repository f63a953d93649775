package accessrule

import (
	"slices"
	"strings"

	"betatron/api"
)

const (
	mostRequests = 20000
	letters      = "abcdefghijklmnopqrstuvwxyz"
	inNames      = letters + "0123456789_"
)

// vocabulary has the words of each field of requests.
type vocabulary struct{ roles, devices, properties, operations, modes, locations []string }

// withAnother returns the words of a field, and the first letter that is none of them.
func withAnother(rules []api.Rule, field func(r api.Rule) string) []string {
	var words []string
	for _, r := range rules {
		if w := field(r); w != "" {
			words = append(words, w)
		}
	}
	for _, letter := range strings.Split(letters, "") {
		if !slices.Contains(words, letter) {
			words = append(words, letter)
			break
		}
	}
	return sorted(words)
}

func sorted(words []string) []string {
	slices.Sort(words)
	return slices.Compact(words)
}

// unusedHead returns the first word that begins with a head and one more of some signs with which no pattern begins;
// the empty word, if there is none.
func unusedHead(rules []api.Rule, head, signs string) string {
	for _, sign := range strings.Split(signs, "") {
		isUsed := func(r api.Rule) bool { return strings.HasPrefix(r.Device, head+sign) }
		if !slices.ContainsFunc(rules, isUsed) {
			return head + sign
		}
	}
	return ""
}

// deviceWords returns the words for devices: such that each set of patterns that some device matches is matched.
func deviceWords(rules []api.Rule) []string {
	var words []string
	put := func(word string) {
		if word != "" {
			words = append(words, word)
		}
	}
	for _, r := range rules {
		head, isOpen := strings.CutSuffix(r.Device, "*")
		put(head)
		if isOpen && head != "" && len(r.Device) <= api.MaxName {
			put(unusedHead(rules, head, inNames))
		}
	}
	put(unusedHead(rules, "", letters))
	return sorted(words)
}

// newVocabulary returns the vocabulary of rules; ErrTooLarge, if it has too many requests.
func newVocabulary(rules []api.Rule) (*vocabulary, api.Errno) {
	v := &vocabulary{
		roles:      withAnother(rules, func(r api.Rule) string { return r.Role }),
		devices:    deviceWords(rules),
		properties: withAnother(rules, func(r api.Rule) string { return r.Property }),
		operations: []string{"get", "set", "subscribe"},
		modes:      withAnother(rules, func(r api.Rule) string { return r.Mode }),
		locations:  withAnother(rules, func(r api.Rule) string { return r.Location }),
	}
	count := 1
	for _, words := range [][]string{v.roles, v.devices, v.properties, v.operations, v.modes, v.locations} {
		count *= len(words)
	}
	if count > mostRequests {
		return nil, api.ErrTooLarge
	}
	return v, api.OK
}

// requests yields all requests of a vocabulary, in order.
func (v *vocabulary) requests(yield func(q api.Request) bool) {
	for _, role := range v.roles {
		for _, device := range v.devices {
			for _, property := range v.properties {
				for _, operation := range v.operations {
					for _, mode := range v.modes {
						for _, location := range v.locations {
							q := api.Request{Role: role, Device: device, Property: property, Operation: operation, Mode: mode, Location: location}
							if !yield(q) {
								return
							}
						}
					}
				}
			}
		}
	}
}

// Shadowed returns the rules that no request reaches first, ascending.
func Shadowed(r api.Rules) ([]int, api.Errno) {
	if e := Valid(r); e != api.OK {
		return nil, e
	}
	v, e := newVocabulary(r.List)
	if e != api.OK {
		return nil, e
	}
	decides := make([]bool, len(r.List))
	for q := range v.requests {
		if _, index := decide(r, q); index != none {
			decides[index] = true
		}
	}
	var shadowed []int
	for i, isReached := range decides {
		if !isReached {
			shadowed = append(shadowed, i)
		}
	}
	return shadowed, api.OK
}

// Differ returns the first request of the common vocabulary on which two lists differ; ErrNone.
func Differ(a, b api.Rules) (api.Request, api.Errno) {
	if e := Valid(a); e != api.OK {
		return api.Request{}, e
	}
	if e := Valid(b); e != api.OK {
		return api.Request{}, e
	}
	v, e := newVocabulary(append(slices.Clone(a.List), b.List...))
	if e != api.OK {
		return api.Request{}, e
	}
	for q := range v.requests {
		first, _ := decide(a, q)
		second, _ := decide(b, q)
		if first != second {
			return q, api.OK
		}
	}
	return api.Request{}, api.ErrNone
}
