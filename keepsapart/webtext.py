"""The written form of a web."""

from keepsapart.errors import BadText
from keepsapart.places import is_lot, pairs_of
from keepsapart.webs import Web


def web_text(web):
    """The written web."""
    lines = [" ".join(("web",) + web.places)]
    return "\n".join(lines + [" ".join(("tie",) + tie) for tie in web.ties])


def web_line(web):
    """The written web in one line."""
    return web_text(web).replace("\n", " ; ")


def read_web(text):
    """The web that is written so."""
    lines = text.split("\n")
    places = lot_in_line("web", lines[0])
    if places is None or len(places) > 7:
        raise BadText(1)
    ties = []
    pairs = pairs_of(places)
    for number, line in enumerate(lines[1:], start=2):
        tie = lot_in_line("tie", line)
        if tie not in pairs:
            raise BadText(number)
        ties.append(tie)
        # The ties ascend, so only the pairs behind this one may follow.
        pairs = pairs[pairs.index(tie) + 1:]
    return Web(places, ties)


def lot_in_line(word, line):
    """The lot behind the word, or None if the line is not this word and a written lot."""
    words = line.split(" ")
    lot = tuple(words[1:])
    return lot if words[0] == word and is_lot(lot) else None
