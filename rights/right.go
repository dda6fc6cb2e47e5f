package rights

import (
	"strings"

	"veil/word"
)

// Verb is what a right lets a role do.
type Verb int

// The rights.
const (
	None Verb = iota // no right has it
	See
	Walk
	Read
	Make
	Set
	Drop
	Link
	Cut
	Call
	Detach
)

// Right: what may be done, and to what: to a label, a type or a view, and, of Read and Set, to which key there.
type Right struct {
	Verb    Verb
	Of, Key string
}

// verbOf tells the verb of the lines that begin with this word and a blank.
func verbOf(first string) Verb {
	switch first {
	case "see":
		return See
	case "walk":
		return Walk
	case "read":
		return Read
	case "make":
		return Make
	case "set":
		return Set
	case "drop":
		return Drop
	case "link":
		return Link
	case "cut":
		return Cut
	case "call":
		return Call
	}
	return None
}

// rightOf reads a line as a right; it answers whether it is one.
func rightOf(line string) (Right, bool) {
	if line == "detach" {
		return Right{Verb: Detach}, true
	}
	first, object, _ := strings.Cut(line, " ")
	right := Right{Verb: verbOf(first), Of: object}
	switch right.Verb {
	case None:
		return Right{}, false
	case Call:
		return right, word.KindOf(object) == word.Name
	case Read, Set:
		right.Of, right.Key, _ = strings.Cut(object, ".")
		return right, word.KindOf(right.Of) == word.Title && word.KindOf(right.Key) == word.Name
	}
	return right, word.KindOf(object) == word.Title
}
