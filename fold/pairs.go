package fold

// pairs of points that are one letter: each step-th x from first to last, and x + shift.
type pairs struct{ first, last, step, shift int }

var letters = [...]pairs{
	{65, 90, 1, 32},
	{192, 214, 1, 32},
	{216, 222, 1, 32},
	{256, 302, 2, 1},
	{913, 929, 1, 32},
	{931, 939, 1, 32},
	{1024, 1039, 1, 80},
	{1040, 1071, 1, 32},
	{962, 962, 1, 963 - 962},
	{181, 181, 1, 956 - 181},
	{8490, 8490, 1, 107 - 8490},
	{8491, 8491, 1, 229 - 8491},
	{7838, 7838, 1, 223 - 7838},
}

// eachPartner hands each point that is paired with p to take, whichever of the two p is.
func eachPartner(p int, take func(q int)) {
	for i := range letters {
		r := letters[i]
		if r.has(p) {
			take(p + r.shift)
		}
		if r.has(p - r.shift) {
			take(p - r.shift)
		}
	}
}

func (r pairs) has(x int) bool {
	return x >= r.first && x <= r.last && (x-r.first)%r.step == 0
}
