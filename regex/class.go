package regex

// classes tell of each byte whether it is one of theirs, by their words.
func classes() map[string]func(c byte) bool {
	return map[string]func(c byte) bool{
		"alnum":  isAlnum,
		"alpha":  isAlpha,
		"blank":  func(c byte) bool { return c == '\t' || c == ' ' },
		"cntrl":  func(c byte) bool { return c < ' ' || c == 127 },
		"digit":  isDigit,
		"graph":  isGraph,
		"lower":  isLower,
		"print":  func(c byte) bool { return c == ' ' || isGraph(c) },
		"punct":  func(c byte) bool { return isGraph(c) && !isAlnum(c) },
		"space":  func(c byte) bool { return '\t' <= c && c <= '\r' || c == ' ' },
		"upper":  isUpper,
		"xdigit": func(c byte) bool { return isDigit(c) || 'A' <= c && c <= 'F' || 'a' <= c && c <= 'f' },
	}
}

func isUpper(c byte) bool { return 'A' <= c && c <= 'Z' }

func isLower(c byte) bool { return 'a' <= c && c <= 'z' }

func isDigit(c byte) bool { return '0' <= c && c <= '9' }

func isAlpha(c byte) bool { return isUpper(c) || isLower(c) }

func isAlnum(c byte) bool { return isAlpha(c) || isDigit(c) }

func isGraph(c byte) bool { return '!' <= c && c <= '~' }
