package world

import (
	"strings"

	"causeway/api"
)

// spoken is a line that says something.
type spoken struct {
	number int
	words  []string
}

// line is one that has a form.
type line struct {
	form
	number int
	word   string // by which the form was found
	said   said
}

// speak tells the lines of a script that say something, and the number of its last line.
func speak(script string) ([]spoken, int) {
	var list []spoken
	lines := strings.Split(script, "\n")
	for i, text := range lines {
		if words := wordsOf(text); len(words) > 0 {
			list = append(list, spoken{number: i + 1, words: words})
		}
	}
	return list, len(lines)
}

// wordsOf are those of a line, without its remark.
func wordsOf(text string) []string {
	text, _, _ = strings.Cut(text, "#")
	return strings.FieldsFunc(text, isBlank)
}

func isBlank(r rune) bool {
	return r == ' ' || r == '\t'
}

// read tells the config that the first line says, and what the others say by their forms; or the number of the line by which the script is none: the last one's, if it ends too early.
func read(script []spoken, last int) (api.Config, []line, int) {
	if len(script) == 0 {
		return api.Config{}, nil, last
	}
	first, is := says(bridgeForm, script[0].words)
	if !is {
		return api.Config{}, nil, script[0].number
	}
	known, inside := forms(), false
	var lines []line
reading:
	for _, s := range script[1:] {
		for _, word := range s.words[:min(len(s.words), 2)] { // a line's own word is its first one, or stands behind whoever does it
			f := known[word]
			what, is := says(f.says, s.words) // where there is no form, none of a line that says something
			if is && f.mayStand(inside) {
				lines = append(lines, line{form: f, number: s.number, word: word, said: what})
				inside = f.leads(inside)
				continue reading
			}
		}
		return api.Config{}, nil, s.number
	}
	if inside {
		return api.Config{}, nil, last
	}
	return first.config, lines, 0
}
