package label

import (
	"strings"

	"entrepot/api"
)

const digits = "0123456789abcdef"

// Text: a set's text.
func Text(l []api.Label) (string, api.Errno) {
	if !Right(l) {
		return "", api.ErrForm
	}
	s := "{"
	for i, x := range l {
		if i > 0 {
			s += ","
		}
		s += x.Name + `="` + quoted(x.Value) + `"`
	}
	return s + "}", api.OK
}

// Parse: the set of a text.
func Parse(s string) ([]api.Label, api.Errno) {
	l, ok := parts(s)
	if !ok {
		return nil, api.ErrForm
	}
	// A set has one text only; whatever else was read as if it were one shows here.
	if again, e := Text(l); e != api.OK || again != s {
		return nil, api.ErrForm
	}
	return l, api.OK
}

// parts reads labels, right or not.
func parts(s string) ([]api.Label, bool) {
	rest, ok := strings.CutPrefix(s, "{")
	if !ok || rest == "}" {
		return nil, ok
	}
	var l []api.Label
	for len(l) < api.MaxLabels {
		name, behind, ok := strings.Cut(rest, `="`)
		if !ok {
			return nil, false
		}
		value, behind, ok := strings.Cut(behind, `"`)
		if !ok {
			return nil, false
		}
		l = append(l, api.Label{Name: name, Value: plain(value)})
		if behind == "}" {
			return l, true
		}
		if rest, ok = strings.CutPrefix(behind, ","); !ok {
			return nil, false
		}
	}
	return nil, false
}

// quoted is a value as it stands in a text.
func quoted(value string) string {
	var b []byte
	for i := range len(value) {
		c := value[i]
		if c < 32 || c > 126 || c == '"' || c == '\\' {
			b = append(b, '\\', digits[c>>4], digits[c&15])
			continue
		}
		b = append(b, c)
	}
	return string(b)
}

// plain is the value that is quoted so; of what is no value's, something whose quoted form is another.
func plain(s string) string {
	var b []byte
	for len(s) > 0 {
		c := s[0]
		s = s[1:]
		if c == '\\' && len(s) >= 2 {
			c = digit(s[0])<<4 | digit(s[1])
			s = s[2:]
		}
		b = append(b, c)
	}
	return string(b)
}

// digit is a hexadecimal digit's number; 0 of what is none.
func digit(c byte) byte { return byte(max(0, strings.IndexByte(digits, c))) }
