"""A desk that keeps primes with papers by names, and is told lines."""

from primepapers.errors import NoDeed, NoLine, NoName, NoPrime
from primepapers.full import full_paper
from primepapers.least import tuples_of
from primepapers.looks import by_halves, by_powers
from primepapers.made import made
from primepapers.signs import by_signs
from primepapers.texts import is_written_number, paper_text, read_paper

# What stands behind each word: a name by which one is kept, a name, a number, any text.
FORMS = {
    "keep": ("name", "number", "text"),
    "find": ("name", "number"),
    "grow": ("kept", "number", "name"),
    "drop": ("kept",),
    "back": (),
    "names": (),
    "show": ("kept",),
    "size": ("kept",),
    "look": ("number", "number"),
}


class Desk:
    """A desk that is told lines and answers with texts."""

    def __init__(self):
        # Of each name the tuple (prime, paper), and of each deed that stands its name and what was kept by it ahead.
        self.kept = {}
        self.past = []

    def say(self, line):
        """The answer to the line."""
        word, values = line_read(line)
        want_kept(FORMS[word], values, self.kept)
        if word in QUESTIONS:
            question = QUESTIONS[word]
            return question(self.kept, values)
        if word == "back":
            self.undo()
        else:
            deed = DEEDS[word]
            name, entry = deed(self.kept, values)
            self.past.append((name, self.kept.get(name)))
            self.put(name, entry)
        return "ok"

    def undo(self):
        if len(self.past) == 0:
            raise NoDeed("no deed stands")
        name, entry = self.past.pop()
        self.put(name, entry)

    def put(self, name, entry):
        if entry is None:
            self.kept.pop(name)
        else:
            self.kept[name] = entry


def line_read(line):
    # The word ahead, and what the others write.
    if not isinstance(line, str):
        raise NoLine("line is no text")
    word = line.partition(" ")[0]
    if word not in FORMS:
        raise NoLine("line begins with no word of a desk")
    form = FORMS[word]
    # The text behind all else may hold blanks itself.
    words = line.split(" ", len(form)) if "text" in form else line.split(" ")
    if len(words) != len(form) + 1:
        raise NoLine(f"line has not as many words as {word} has")
    return (word, [value_read(kind, written) for kind, written in zip(form, words[1:])])


def value_read(kind, written):
    if kind == "text":
        return written
    if kind == "number":
        if not is_written_number(written):
            raise NoLine("line has no number where one is due")
        return int(written)
    if len(written) != 1 or not "a" <= written <= "z":
        raise NoLine("line has no name where one is due")
    return written


def want_kept(form, values, kept):
    for kind, value in zip(form, values):
        if kind == "kept" and value not in kept:
            raise NoName(f"{value} is no name by which something is kept")


def keep(kept, values):
    name, number, text = values
    return (name, (number, read_paper(number, text)))


def find(kept, values):
    name, number = values
    paper = full_paper(number)
    if paper is None:
        raise NoPrime(f"{number} is no prime")
    return (name, (number, paper))


def grow(kept, values):
    elder, k, name = values
    q, paper = kept[elder]
    grown = made(q, paper, k)
    if grown is None:
        raise NoPrime(f"{2 * k * q + 1} is no prime")
    return (name, (2 * k * q + 1, grown))


def drop(kept, values):
    return (values[0], None)


def names(kept, values):
    return " ".join(sorted(kept)) if len(kept) > 0 else "none"


def show(kept, values):
    prime, paper = kept[values[0]]
    return f"{prime} {paper_text(prime, paper)}"


def size(kept, values):
    prime, paper = kept[values[0]]
    return str(tuples_of(prime, paper))


def look(kept, values):
    n, base = values
    if by_halves(n, base):
        return "halves"
    if by_signs(n, base):
        return "signs"
    return "powers" if by_powers(n, base) else "no"


# A deed tells a name and what is kept by it from then on, None where nothing is; a question tells its answer.
DEEDS = {"keep": keep, "find": find, "grow": grow, "drop": drop}
QUESTIONS = {"names": names, "show": show, "size": size, "look": look}
