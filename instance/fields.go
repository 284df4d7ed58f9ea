package instance

// maxDigits bounds the digits, not the value: noughts ahead count as digits too.
const maxDigits = 5

// lines splits a text at each newline: k newlines make k + 1 lines.
func lines(text string) []string {
	var list []string
	begin := 0
	for i := 0; i < len(text); i++ {
		if text[i] == '\n' {
			list = append(list, text[begin:i])
			begin = i + 1
		}
	}
	return append(list, text[begin:])
}

// fields splits a line by blanks. Byte 32 alone parts fields: a tab or a carriage return belongs to its field.
func fields(line string) []string {
	var list []string
	begin := 0
	for i := 0; i < len(line); i++ {
		if line[i] != ' ' {
			continue
		}
		if begin < i {
			list = append(list, line[begin:i])
		}
		begin = i + 1
	}
	if begin < len(line) {
		list = append(list, line[begin:])
	}
	return list
}

// number reads one field; the second result is false if the field is no number.
func number(field string) (int, bool) {
	if len(field) < 1 || len(field) > maxDigits {
		return 0, false
	}
	value := 0
	for i := 0; i < len(field); i++ {
		digit := field[i]
		if digit < '0' || digit > '9' {
			return 0, false
		}
		value = value*10 + int(digit-'0')
	}
	return value, true
}

// numbers reads all the fields; the second result is false if one is no number.
func numbers(list []string) ([]int, bool) {
	values := make([]int, len(list))
	for i := 0; i < len(list); i++ {
		value, ok := number(list[i])
		if !ok {
			return nil, false
		}
		values[i] = value
	}
	return values, true
}
