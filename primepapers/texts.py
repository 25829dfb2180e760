"""Papers written as texts, and read from them."""

from primepapers.checks import MOST_FIGURES, want_number
from primepapers.errors import NoText
from primepapers.papers import is_paper, rows_of, want_paper

FIGURES = "0123456789"


def paper_text(n, paper):
    """The text that writes the paper of n."""
    want_number(n, "n")
    want_paper(n, paper, "paper")
    # What is still to be written stands in a list: calls within calls might go too deep.
    pieces = []
    left = [paper]
    while len(left) > 0:
        piece = left.pop()
        if isinstance(piece, str):
            pieces.append(piece)
        else:
            left.extend(pieces_of(piece)[::-1])
    return "".join(pieces)


def read_paper(n, text):
    """The paper of n that the text writes."""
    want_number(n, "n")
    if not isinstance(text, str):
        raise NoText("text is no text")
    paper = written_in(Reader(text))
    if not is_paper(n, paper):
        raise NoText("text writes no paper of n")
    return paper


def pieces_of(paper):
    # Texts, and the papers of the rows between them.
    if paper[0] == "two":
        return ["two"]
    pieces = [f"{head_text(paper)} ["]
    for prime, often, inner in rows_of(paper):
        pieces.extend([f"{prime}^{often} ", inner, "; "])
    pieces[-1] = "]"
    return pieces


def head_text(paper):
    if paper[0] == "other":
        x, y = paper[2]
        return f"other {paper[1]} {x} {y}"
    return f"{paper[0]} {paper[1]}"


def is_written_number(word):
    # Whether the word is a whole number in figures, not too many, without a nought ahead.
    if not 1 <= len(word) <= MOST_FIGURES or (word[0] == "0" and word != "0"):
        return False
    return all([sign in FIGURES for sign in word])


class Reader:
    """A text, and how far it is read."""

    def __init__(self, text):
        self.text = text
        self.at = 0

    def takes(self, words):
        # Whether the text goes on with the words; they are read then.
        end = self.at + len(words)
        if self.text[self.at:end] != words:
            return False
        self.at = end
        return True

    def want(self, words):
        if not self.takes(words):
            raise NoText(f"text has no {words!r} where one is due")

    def number(self):
        start = self.at
        while self.at < len(self.text) and self.text[self.at] in FIGURES:
            self.at += 1
        word = self.text[start:self.at]
        if not is_written_number(word):
            raise NoText("text has no number where one is due")
        return int(word)

    def head(self):
        for word in ("full", "share"):
            if self.takes(f"{word} "):
                return (word, self.number())
        self.want("other ")
        d = self.number()
        self.want(" ")
        x = self.number()
        self.want(" ")
        return ("other", d, (x, self.number()))

    def row(self):
        prime = self.number()
        self.want("^")
        often = self.number()
        self.want(" ")
        return (prime, often)


def written_in(reader):
    # Papers that are not at their end stand in a list, each with its rows and the row whose paper is being read.
    begun = []
    paper = first_two(reader, begun)
    while len(begun) > 0:
        head, rows, row = begun.pop()
        rows.append(row + (paper,))
        if reader.takes("; "):
            begun.append((head, rows, reader.row()))
            paper = first_two(reader, begun)
        else:
            reader.want("]")
            paper = head + (tuple(rows),)
    if reader.at != len(reader.text):
        raise NoText("text goes on behind the paper")
    return paper


def first_two(reader, begun):
    # All papers begin with others' first rows within them, down to a first "two".
    while not reader.takes("two"):
        head = reader.head()
        reader.want(" [")
        begun.append((head, [], reader.row()))
    return ("two",)
