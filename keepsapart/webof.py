"""The web of a book, the book of a web, and which books are a web's."""

from keepsapart.apart import keeps
from keepsapart.books import Book, first_difference
from keepsapart.brokenrule import broken_use, is_broken_use
from keepsapart.errors import NotKept
from keepsapart.places import check_many, lot_union, pairs_of
from keepsapart.sayings import all_sayings, check_saying, is_full, outside_of, pair_saying
from keepsapart.webs import Web


def web_of(book):
    """The web that ties each pair whose pair saying is not in the book."""
    apart = pairs_apart(book)
    return Web(book.places, [pair for pair in pairs_of(book.places) if pair not in apart])


def book_of(web):
    """The book of all sayings that a web of at most 5 places keeps."""
    check_many(web.places, 5)
    return Book(web.places, [saying for saying in all_sayings(web.places) if keeps(web, saying)])


def is_web_book(book):
    """True if the book is the book of some web."""
    return gap(book) is None


def pairs_apart(book):
    """The pairs whose pair saying is in the book, ascending."""
    return [(a, b) for a, b in pairs_of(book.places) if pair_saying(book.places, a, b) in book]


def gap(book):
    """The least saying that is in exactly one of the book and the book of its web, or None."""
    return first_difference(book, book_of(web_of(book)))


def both_ways(book):
    """The web of the book if the book is closed, otherwise its first broken use."""
    use = broken_use(book)
    return ("web", web_of(book)) if use is None else ("broken", use)


def is_both_ways(book, paper):
    """True if the raw paper shows that the book is the book of its web, or of none."""
    word, witness = paper
    if word == "web":
        return witness.places == book.places and book_of(witness) == book
    return word == "broken" and is_broken_use(book, witness)


def grow(book, saying):
    """The full saying that growing a saying of the book ends with, or None if growing fails."""
    check_saying(saying, places=book.places)
    if saying not in book:
        raise NotKept(saying)
    grown = grown_in(book.places, book, saying)
    return grown if is_full(book.places, grown) else None


def grown_in(places, held, saying):
    """The saying where growing ends, or fails, by the sayings that are held."""
    left, between, right = saying
    for place in outside_of(places, saying):
        if (left, between, (place,)) in held:
            right = lot_union(right, (place,))
        elif ((place,), between, right) in held:
            left = lot_union(left, (place,))
        else:
            break
    return (left, between, right)
