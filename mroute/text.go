package mroute

import (
	"strconv"
	"strings"

	"vinery/addr"
	"vinery/api"
	"vinery/rd"
)

// all stands in the place of a source or a group that is none.
const all = "*"

// Text is one as a text.
func Text(m api.Mroute) string {
	if !Right(m) {
		return ""
	}
	words := []string{strconv.Itoa(m.Kind)}
	texts := textsOf(m)
	for part, has := range names(m.Kind) {
		if has {
			words = append(words, texts[part]())
		}
	}
	return strings.Join(words, " ")
}

// textsOf are what tells each part of a route.
func textsOf(m api.Mroute) [allParts]func() string {
	return [allParts]func() string{
		partRD:     func() string { return rd.Text(m.RD) },
		partAS:     func() string { return strconv.Itoa(m.AS) },
		partSource: func() string { return flowText(m.Source) },
		partGroup:  func() string { return flowText(m.Group) },
		partKey:    func() string { return "[" + Text(keyed(m)) + "]" },
		partFrom:   func() string { return addr.Text(m.From) },
	}
}

// flowText is the text of one of a flow's addresses.
func flowText(a api.Addr) string {
	if a.Size == 0 {
		return all
	}
	return addr.Text(a)
}
