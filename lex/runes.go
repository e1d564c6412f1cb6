package lex

import "strings"

// maxText is how many bytes a text may mean.
const maxText = 200

func isSmall(r rune) bool { return r >= 'a' && r <= 'z' }

func isGreat(r rune) bool { return r >= 'A' && r <= 'Z' }

func isDigit(r rune) bool { return r >= '0' && r <= '9' }

func isBlank(r rune) bool { return r == ' ' || r == '\t' || r == '\n' || r == '\r' }

func isSign(r rune) bool { return strings.ContainsRune("{}(),;=~-", r) }

// isTextRune: may it stand between quotes, escaped or not?
func isTextRune(r rune) bool { return r >= ' ' && r <= '~' }

// isEscaped: does it stand between quotes only behind a backslash?
func isEscaped(r rune) bool { return r == '"' || r == '\\' }
