package world

import (
	"slices"

	"causeway/api"
	"causeway/letter"
)

const (
	several = "many"
	between = ";"
)

// letterForm is how a letter of a kind is said.
type letterForm struct {
	kind int
	says string
}

// letterForms are those of all letters but the ones of several, by their words.
func letterForms() map[string]letterForm {
	return map[string]letterForm{
		"move":   {api.LetterMove, "move T A to TO"},
		"burn":   {api.LetterBurn, "burn T A to TO"},
		"allow":  {api.LetterAllow, "allow T A to TO"},
		"pull":   {api.LetterPull, "pull T A from FROM to TO"},
		"retry":  {api.LetterRetry, "retry N"},
		"cancel": {api.LetterCancel, "cancel N"},
		"token":  {api.LetterToken, "token T"},
		"pause":  {api.LetterPause, "pause T"},
		"resume": {api.LetterResume, "resume T"},
		"code":   {api.LetterCode, "code HEX"},
		"call":   {api.LetterCall, "call N T A gas GAS ARGS"},
	}
}

// toLetter reads a letter, of several letters or not.
func toLetter(words []string) (api.Letter, bool) {
	forms := letterForms()
	if len(words) == 0 || words[0] != several {
		return toPart(forms, words)
	}
	whole := api.Letter{Kind: api.LetterMany}
	for _, part := range parts(words[1:]) {
		l, is := toPart(forms, part)
		if !is {
			return api.Letter{}, false
		}
		whole.Parts = append(whole.Parts, l)
	}
	return whole, true
}

// parts cuts words at each word that stands between two letters. There is one at least, which may be empty.
func parts(words []string) [][]string {
	var list [][]string
	for {
		i := slices.Index(words, between)
		if i < 0 {
			return append(list, words)
		}
		list = append(list, words[:i])
		words = words[i+1:]
	}
}

// toPart reads a letter that is not of several.
func toPart(forms map[string]letterForm, words []string) (api.Letter, bool) {
	if len(words) == 0 {
		return api.Letter{}, false
	}
	f, there := forms[words[0]]
	if !there {
		return api.Letter{}, false
	}
	s, is := says(f.says, words)
	if !is {
		return api.Letter{}, false
	}
	return s.part(f.kind), true
}

// letterBytes are what is sent for a letter. A letter that may not be is sent all the same, as a byte that is none.
func letterBytes(l api.Letter) []byte {
	b, e := letter.Bytes(l)
	if e != api.OK {
		return []byte{0}
	}
	return b
}
