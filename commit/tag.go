package commit

import (
	"strings"

	"tramway/api"
	"tramway/object"
	"tramway/sha"
)

// Tag is one.
type Tag struct {
	Object  api.Id
	Kind    int
	Name    string
	Tagger  Who
	Message string
}

func (t Tag) right() bool {
	return object.Word(t.Kind) != "" && t.Name != "" && !strings.Contains(t.Name, "\n") && t.Tagger.right()
}

// PrintTag tells a tag's body.
func PrintTag(t Tag) ([]byte, api.Errno) {
	if !t.right() {
		return nil, api.ErrForm
	}
	var s strings.Builder
	line(&s, "object ", sha.Hex(t.Object))
	line(&s, "type ", object.Word(t.Kind))
	line(&s, "tag ", t.Name)
	line(&s, "tagger ", t.Tagger.text())
	line(&s)
	s.WriteString(t.Message)
	return []byte(s.String()), api.OK
}

// ParseTag tells a body's tag.
func ParseTag(body []byte) (Tag, api.Errno) {
	r := reader{rest: rest{string(body)}}
	t := Tag{
		Object:  r.id("object"),
		Kind:    object.Kind(r.value("type")),
		Name:    r.value("tag"),
		Tagger:  r.who("tagger"),
		Message: r.message(),
	}
	if r.wrong || !t.right() {
		return Tag{}, api.ErrForm
	}
	return t, api.OK
}
