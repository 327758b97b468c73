"""The written forms of a saying, a told list and a book."""

from keepsapart.books import Book
from keepsapart.errors import BadText
from keepsapart.places import check_places
from keepsapart.sayings import check_saying, check_told, has_form, is_over
from keepsapart.webtext import lot_in_line


def saying_text(saying):
    """The written saying."""
    check_saying(saying)
    left, between, right = saying
    return " ".join(left + ("|",) + between + ("|",) + right)


def read_saying(text):
    """The saying that is written so."""
    lines = text.split("\n")
    saying = saying_in(lines[0], None)
    if saying is None:
        raise BadText(1)
    check_one_line(lines)
    return saying


def told_text(places, told):
    """The written told list."""
    check_places(places)
    check_told(told, places=places)
    return lines_of("told", places, told)


def read_told(text):
    """The world and the list of the told sayings that are written so."""
    lines = text.split("\n")
    places = world_in("told", lines[0], 7)
    told = []
    for number, line in enumerate(lines[1:], start=2):
        saying = saying_in_line("say", places, line)
        if saying is None or len(told) == 10:
            raise BadText(number)
        told.append(saying)
    return (places, told)


def book_text(book):
    """The written book."""
    return lines_of("book", book.places, book.sayings)


def read_book(text):
    """The book that is written so."""
    lines = text.split("\n")
    places = world_in("book", lines[0], 5)
    sayings = []
    for number, line in enumerate(lines[1:], start=2):
        saying = saying_in_line("say", places, line)
        if saying is None or (sayings and saying <= sayings[-1]):
            raise BadText(number)
        sayings.append(saying)
    return Book(places, sayings)


def lines_of(word, places, sayings):
    """The line of the world behind the word, and a line for each saying."""
    lines = [" ".join((word,) + places)]
    return "\n".join(lines + ["say " + saying_text(saying) for saying in sayings])


def world_in(word, line, most):
    """The world of at most so many places that the first line names behind the word."""
    places = lot_in_line(word, line)
    if places is None or len(places) > most:
        raise BadText(1)
    return places


def saying_in_line(word, places, line):
    """The saying over the world behind the word, or None if the line is not written so."""
    before, _, rest = line.partition(" ")
    return saying_in(rest, places) if before == word else None


def saying_in(text, places):
    """The saying, over the world if there is one, that is written so in one line, or None if there is none."""
    lots = [[]]
    for word in text.split(" "):
        if word == "|":
            lots.append([])
        else:
            lots[-1].append(word)
    saying = tuple([tuple(lot) for lot in lots])
    if len(saying) != 3 or not has_form(saying):
        return None
    return saying if places is None or is_over(places, saying) else None


def check_one_line(lines):
    """Refuse a second line, where the form has only one."""
    if len(lines) > 1:
        raise BadText(2)
