package points

// MaxName is how many points a name may have.
const MaxName = 20

// MayNameHave tells whether a point may stand in a name: as its first one, or behind that.
func MayNameHave(p int, first bool) bool {
	return IsLetter(p) || p == '_' || !first && p >= '0' && p <= '9'
}

// IsLetter tells whether a point is one of those letters of which patterns are written.
func IsLetter(p int) bool { return p >= 'a' && p <= 'z' || p >= 'A' && p <= 'Z' }

// IsName tells whether a text is a name.
func IsName(text string) bool {
	if text == "" || len(text) > MaxName {
		return false
	}
	for i := range len(text) {
		if !MayNameHave(int(text[i]), i == 0) {
			return false
		}
	}
	return true
}
