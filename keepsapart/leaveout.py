"""Leaving out and holding a lot in webs and books, cones, and webs that are put together or parted."""

from keepsapart.books import Book
from keepsapart.errors import BadLot, BadSaying, Disagree
from keepsapart.greatwebs import check_kept
from keepsapart.places import (
    check_lot, check_many, check_new_place, check_place, lot_common, lot_minus, lot_union, pairs_of, put_in,
)
from keepsapart.sayings import all_sayings, check_saying, is_full, more, places_of
from keepsapart.ways import check_none_missing, shortest_way
from keepsapart.webs import Web, induced, pairs_differing


def inner_way(web, a, b, lot):
    """The shortest way between the two places whose inner places are all in the lot, or None."""
    check_place(a, places=web.places)
    check_place(b, places=web.places)
    check_lot(lot, places=web.places)
    if a == b:
        raise BadLot((a, b))
    check_none_missing((a, b), lot)
    return shortest_way(web, a, b, missing=tuple([place for place in web if place not in (a, b) + lot]))


def leave_out(web, lot):
    """The web over the other places that ties two of them if a way through the lot joins them."""
    check_lot(lot, places=web.places)
    others = lot_minus(web.places, lot)
    return Web(others, [(a, b) for a, b in pairs_of(others) if inner_way(web, a, b, lot) is not None])


def hold_always(web, lot):
    """The web over the other places with the ties between them."""
    check_lot(lot, places=web.places)
    return induced(web, lot_minus(web.places, lot))


def cone(web, place):
    """The web with a place more that is tied to every other place."""
    return web.with_place(place, tied_to=web.places)


def book_leave_out(book, lot):
    """The book over the other places of the sayings that have no place of the lot."""
    check_lot(lot, places=book.places)
    sayings = [saying for saying in book if lot_common(places_of(saying), lot) == ()]
    return Book(lot_minus(book.places, lot), sayings)


def book_hold(book, lot):
    """The book over the other places of the sayings that are in the book with the lot between."""
    check_lot(lot, places=book.places)
    others = lot_minus(book.places, lot)
    return Book(others, [saying for saying in all_sayings(others) if with_between(saying, lot) in book])


def with_between(saying, lot):
    """The saying with the lot in its between lot too."""
    left, between, right = saying
    return (left, lot_union(between, lot), right)


def book_cone(book, place):
    """The book over a world with a place more of all sayings of the book with this place between."""
    check_new_place(place, book.places)
    places = put_in(book.places, place)
    check_many(places, 5)
    return Book(places, [more(saying, place) for saying in book])


def together(first, second):
    """The web of the places and the ties of two webs that agree."""
    check_agreeing(first, second)
    return Web(lot_union(first.places, second.places), sorted(set(first.ties) | set(second.ties)))


def check_agreeing(first, second):
    """Refuse webs that tie a pair differently, or that have too many places together."""
    differing = pairs_differing(first, second)
    if differing:
        raise Disagree(differing[0])
    check_many(lot_union(first.places, second.places), 7)


def seen_from(first, second):
    """The first web with the ties that the second one makes between the places of both."""
    check_agreeing(first, second)
    seen = leave_out(second, lot_minus(second.places, first.places))
    return Web(first.places, sorted(set(first.ties) | set(seen.ties)))


def part_web(web, saying):
    """The webs on the left and between lot and on the between and right lot of a full saying that the web keeps."""
    check_saying(saying, places=web.places)
    if not is_full(web.places, saying):
        raise BadSaying(saying)
    check_kept(web, [saying])
    left, between, right = saying
    return (induced(web, lot_union(left, between)), induced(web, lot_union(between, right)))
