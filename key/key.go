// Package key tells labels by one text, so that a map can find them.
package key

import (
	"strconv"
	"strings"

	"soundings/api"
)

// Of: unlike labels have unlike texts: how long each name and value is stands ahead of it, as both may hold any bytes.
func Of(l []api.Label) string {
	var b strings.Builder
	for _, x := range l {
		put(&b, x.Name)
		put(&b, x.Value)
	}
	return b.String()
}

func put(b *strings.Builder, s string) {
	b.WriteString(strconv.Itoa(len(s)))
	b.WriteByte(':')
	b.WriteString(s)
}
