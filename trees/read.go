package trees

import "depot/api"

// maxDigits keeps the value of a number far below where it would overflow; no number up to MaxDual has more.
const maxDigits = 9

// Read reads the text of a tree. With a fault it tells the number of the line that has it; a line that is missing comes behind all that there are.
func Read(text string) ([]api.Node, int, api.Errno) {
	var list []api.Node
	left := 1
	begin := 0
	for left > 0 {
		end := find(text, begin, '\n')
		if end == len(text) {
			return nil, len(list) + 1, api.ErrTree
		}
		node, ok := nodeOf(text[begin:end])
		if !ok {
			return nil, len(list) + 1, api.ErrTree
		}
		list = append(list, node)
		left = missing(left, node.Kind)
		begin = end + 1
	}
	if begin < len(text) {
		return nil, len(list) + 1, api.ErrTree
	}
	return list, 0, api.OK
}

// find tells where a byte stands next, from a place on; the end of the text, if nowhere.
func find(text string, place int, letter byte) int {
	for i := place; i < len(text); i++ {
		if text[i] == letter {
			return i
		}
	}
	return len(text)
}

// nodeOf reads one line; the second result is false if it is no node's.
func nodeOf(line string) (api.Node, bool) {
	if line == "" {
		return api.Node{}, false
	}
	kind := kindOf(line[0])
	list, ok := numbersOf(line[1:])
	if !ok || !countFits(kind, len(list)) {
		return api.Node{}, false
	}
	return api.Node{Kind: kind, List: list}, true
}

// numbersOf reads what stands behind the letter. It gives up where there are more numbers than any node has: a line may be of any length.
func numbersOf(text string) ([]int, bool) {
	var list []int
	place := 0
	for place < len(text) {
		if text[place] != ' ' || len(list) == most {
			return nil, false
		}
		begin := place + 1
		place = find(text, begin, ' ')
		value, ok := number(text[begin:place])
		if !ok {
			return nil, false
		}
		list = append(list, value)
	}
	return list, true
}

// number reads one number; the second result is false if the word is none.
func number(word string) (int, bool) {
	digits := word
	if word != "" && word[0] == '-' {
		digits = word[1:]
	}
	if digits == "" || len(digits) > maxDigits {
		return 0, false
	}
	// A nought ahead is needless, but for the one word that is a nought alone: `-0` is no number.
	if digits[0] == '0' && word != "0" {
		return 0, false
	}
	value := 0
	for i := 0; i < len(digits); i++ {
		if digits[i] < '0' || digits[i] > '9' {
			return 0, false
		}
		value = value*10 + int(digits[i]-'0')
	}
	if value > api.MaxDual {
		return 0, false
	}
	if len(digits) < len(word) {
		return -value, true
	}
	return value, true
}
