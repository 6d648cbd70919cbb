package url

import (
	"strconv"
	"strings"

	"roster/api"
)

const (
	maxHost     = 255   // bytes of a host that is no literal
	maxLiteral  = 45    // bytes between a literal's brackets
	minColons   = 2     // among them, so these are the fewest bytes too
	maxPort     = 65535 // the least is 1
	defaultPort = 389   // what no port counts as
)

// readServer reads the host's part of a URL.
func readServer(u *api.URL, part string) fault {
	if part == "" {
		return fault{}
	}
	end := hostEnd(part)
	if !isHost(part[:end]) {
		return fault{api.ErrHost, 0}
	}
	u.Host = part[:end]
	if end == len(part) {
		return fault{}
	}
	if part[end] != ':' {
		return fault{api.ErrHost, end}
	}
	port, ok := readPort(part[end+1:])
	if !ok {
		return fault{api.ErrHost, end + 1}
	}
	u.Port = port
	return fault{}
}

// hostEnd tells where the host ends, or what stands in its stead; of a literal that isn't closed 0, and nothing is no host.
func hostEnd(part string) int {
	if part[0] == '[' {
		return strings.IndexByte(part, ']') + 1
	}
	return rowEnd(part, hostByte)
}

func isHost(s string) bool {
	if strings.HasPrefix(s, "[") {
		return isLiteral(s[1:])
	}
	return 1 <= len(s) && len(s) <= maxHost && rowEnd(s, hostByte) == len(s)
}

// isLiteral is asked without the opening bracket.
func isLiteral(s string) bool {
	inner, closed := strings.CutSuffix(s, "]")
	return closed && len(inner) <= maxLiteral && rowEnd(inner, literalByte) == len(inner) && strings.Count(inner, ":") >= minColons
}

func hostByte(b byte) bool { return letter(b) || digit(b) || b == '-' || b == '.' }

func literalByte(b byte) bool {
	return digit(b) || 'a' <= b && b <= 'f' || 'A' <= b && b <= 'F' || b == ':' || b == '.'
}

// readPort is the port that a text says; false, if it isn't written as that number is.
func readPort(s string) (int, bool) {
	port, err := strconv.Atoi(s)
	if err != nil || port < 1 || port > maxPort || strconv.Itoa(port) != s {
		return 0, false
	}
	return port, true
}

// serverMade tells whether a host and a port may stand in a URL; 0 is no port.
func serverMade(host string, port int) bool {
	if host == "" {
		return port == 0
	}
	return isHost(host) && 0 <= port && port <= maxPort
}

func portMeant(port int) int {
	if port == 0 {
		return defaultPort
	}
	return port
}
