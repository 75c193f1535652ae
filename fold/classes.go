package fold

import "thicket/api"

// eachRange hands the ranges of a class to take, in any order, also ones that touch; it tells whether there is such a class.
func eachRange(name string, take func(from, to int)) bool {
	switch name {
	case "any":
		hand(take, 0, api.MaxPoint)
	case "ascii":
		hand(take, 0, 127)
	case "cntrl":
		hand(take, 0, 31, 127, 159)
	case "digit":
		eachDigit(take)
	case "xdigit":
		hand(take, 48, 57, 65, 70, 97, 102)
	case "blank":
		hand(take, 9, 9, 32, 32)
	case "space":
		hand(take, 9, 13, 32, 32, 133, 133, 160, 160, 8192, 8202, 8232, 8233, 12288, 12288)
	case "punct":
		eachPunct(take)
	case "alpha":
		eachAlpha(take)
	case "upper":
		hand(take, 65, 90, 192, 214, 216, 222)
		handEverySecond(take, 256, 302)
		hand(take, 913, 929, 931, 939, 1024, 1071, 7838, 7838, 8490, 8491)
	case "lower":
		hand(take, 97, 122, 181, 181, 223, 246, 248, 255)
		handEverySecond(take, 257, 303)
		hand(take, 945, 971, 1072, 1119)
	case "alnum":
		eachAlnum(take)
	case "word":
		eachAlnum(take)
		hand(take, 95, 95)
	case "graph":
		eachAlnum(take)
		eachPunct(take)
	default:
		return false
	}
	return true
}

func eachDigit(take func(from, to int)) {
	hand(take, 48, 57, 1632, 1641)
}

func eachPunct(take func(from, to int)) {
	hand(take, 33, 47, 58, 64, 91, 96, 123, 126)
	hand(take, 161, 169, 171, 180, 182, 185, 187, 191, 215, 215, 247, 247)
}

func eachAlpha(take func(from, to int)) {
	hand(take, 65, 90, 97, 122, 170, 170, 181, 181, 186, 186, 192, 214, 216, 246, 248, 591)
	hand(take, 913, 929, 931, 974, 1024, 1153, 7838, 7838, 8490, 8491)
}

func eachAlnum(take func(from, to int)) {
	eachAlpha(take)
	eachDigit(take)
}

// hand ranges, each written as its two ends, to take.
func hand(take func(from, to int), ends ...int) {
	for i := 0; i+1 < len(ends); i += 2 {
		take(ends[i], ends[i+1])
	}
}

func handEverySecond(take func(from, to int), first, last int) {
	for p := first; p <= last; p += 2 {
		take(p, p)
	}
}
