package sample

import (
	"strings"

	"metronome/api"
)

// Cut takes the @ out of a text, which marks where its error stands; without one, there is no error.
func Cut(text string) (string, api.Pos) {
	ahead, behind, ok := strings.Cut(text, "@")
	if !ok {
		return text, api.Pos{}
	}
	return ahead + behind, api.Pos{Line: 1 + strings.Count(ahead, "\n"), Col: len(ahead) - strings.LastIndex(ahead, "\n")}
}
