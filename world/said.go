package world

import (
	"strings"

	"causeway/api"
)

// said is what a line, or a letter, says in the places of its form; what its form has no place for is zero.
type said struct {
	config       api.Config // of the bridge's line alone
	by, from, to api.Address
	token        int
	number       int
	index        int
	gas          int
	amount       api.Wide
	args         []api.Wide
	code         []byte
	letter       api.Letter
	turned       int // 1, where a commit is to be turned
}

// says reads words by a form, which is words, too: those in capitals are places. It tells false, where the words are not of the form.
func says(form string, words []string) (said, bool) {
	var s said
	for _, place := range strings.Fields(form) {
		taken, is := s.take(place, words)
		if !is {
			return said{}, false
		}
		words = words[taken:]
	}
	return s, len(words) == 0
}

// take reads what stands in a place, of words that have not been read yet: how many it takes of these.
func (s *said) take(place string, words []string) (int, bool) {
	switch {
	case place == "ARGS":
		return len(words), s.takeArgs(words)
	case place == "LETTER":
		l, is := toLetter(words)
		s.letter = l
		return len(words), is
	case len(words) == 0:
		return 0, false
	}
	return 1, s.takeWord(place, words[0])
}

func (s *said) takeArgs(words []string) bool {
	for _, word := range words {
		w, is := toAmount(word)
		if !is {
			return false
		}
		s.args = append(s.args, w)
	}
	return true
}

// takeWord reads the word that stands in a place. A place that is no capitals is a word itself.
func (s *said) takeWord(place, word string) bool {
	switch place {
	case "OWNER":
		return put(&s.config.Owner, toAddress, word)
	case "ADMIN":
		return put(&s.config.Admin, toAddress, word)
	case "WINDOW":
		return put(&s.config.Window, toNumber, word)
	case "TURN":
		return put(&s.config.Turn, toNumber, word)
	case "BOND":
		return put(&s.config.Bond, toAmount, word)
	case "WHO":
		return put(&s.by, toAddress, word)
	case "FROM":
		return put(&s.from, toAddress, word)
	case "TO":
		return put(&s.to, toAddress, word)
	case "T":
		return put(&s.token, toNumber, word)
	case "N":
		return put(&s.number, toNumber, word)
	case "GAS":
		return put(&s.gas, toNumber, word)
	case "A":
		return put(&s.amount, toAmount, word)
	case "HEX":
		return put(&s.code, toBytes, word)
	case "HALF":
		return choose(&s.index, "lower", "upper", word)
	case "TRUTH":
		return choose(&s.turned, "true", "false", word)
	}
	return word == place
}

// put reads a word, and lays what it stands for.
func put[V any](at *V, read func(string) (V, bool), word string) bool {
	v, is := read(word)
	*at = v
	return is
}

// choose lays which of two words it is: 0 or 1.
func choose(at *int, first, second, word string) bool {
	if word == second {
		*at = 1
	}
	return word == first || word == second
}

// op is the operation of a kind with what is said.
func (s said) op(kind int) api.Op {
	return api.Op{Kind: kind, By: s.by, Token: s.token, To: s.to, Amount: s.amount, Gas: s.gas, Number: s.number, Index: s.index}
}

// part is the letter of a kind with what is said.
func (s said) part(kind int) api.Letter {
	return api.Letter{Kind: kind, Token: s.token, From: s.from, To: s.to, Amount: s.amount, Number: s.number, Gas: s.gas, Args: s.args, Code: s.code}
}
