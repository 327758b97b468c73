"""The written form of a paper."""

from keepsapart.errors import BadText
from keepsapart.papers import PARTS, Paper, world_bound
from keepsapart.rules import use_in, use_text
from keepsapart.saytext import book_text, read_book, read_told, saying_in_line, saying_text, told_text
from keepsapart.trees import tree_in, tree_text
from keepsapart.webtext import lot_in_line, read_web, web_text

# The word before each part that is written in one line.
WORDS = {"saying": "say", "split": "split", "goal": "goal", "use": "use", "side": "side", "way": "way"}

# The words before the world and before the further lines of each part that is written in several lines.
HEADS = {
    "web": ("web", "tie"), "book": ("book", "say"),
    "told": ("told", "say"), "first": ("told", "say"), "second": ("told", "say"),
}


def paper_text(paper):
    """The written paper."""
    parts = paper.parts
    lines = ["paper " + paper.kind]
    for name, part in zip(PARTS[paper.kind], parts):
        lines = lines + part_texts(name, part, parts[0])
    return "\n".join(lines)


def part_texts(name, part, places):
    """The written part of a paper, a list of texts; the places are the world where the part has none of its own."""
    if name == "places":
        return []
    if name == "web":
        return [web_text(part)]
    if name == "book":
        return [book_text(part)]
    if name == "tree":
        return [tree_text(part)]
    if name == "ways":
        return [" ".join(("way",) + way) for way in part]
    if name in HEADS:
        return [told_text(places, part)]
    return [WORDS[name] + " " + line_text(name, part)]


def line_text(name, part):
    """What stands behind the word of a part that is written in one line."""
    if name == "use":
        return use_text(part)
    if name == "side":
        return part
    return " ".join(part) if name == "way" else saying_text(part)


def read_paper(text):
    """The paper that is written so."""
    lines = text.split("\n")
    word, _, kind = lines[0].partition(" ")
    if word != "paper" or kind not in PARTS:
        raise BadText(1)
    places = world_below(kind, lines)
    parts = []
    at = 1
    for name in PARTS[kind]:
        part, at = read_part(name, lines, at, places)
        parts.append(part)
    if at < len(lines):
        raise BadText(at + 1)
    return Paper(kind, *parts)


def world_below(kind, lines):
    """The world that the second line of the paper names, whatever its first part is."""
    names = [name for name in PARTS[kind] if name in HEADS]
    word, _ = HEADS[names[0]]
    places = lot_in_line(word, line_at(lines, 1))
    if places is None or len(places) > world_bound(kind):
        raise BadText(2)
    return places


def line_at(lines, at):
    """The line at the index, or the empty line, which no part allows, behind the last one."""
    return lines[at] if at < len(lines) else ""


def read_part(name, lines, at, places):
    """The part that begins at the index, and the index of the line behind it."""
    if name == "places":
        return (places, at)
    if name == "ways":
        return read_ways(lines, at, places)
    if name in HEADS:
        return read_block(name, lines, at, places)
    if name == "tree":
        return (read_lines(name, lines, at, len(lines), places), len(lines))
    part = part_in_line(name, line_at(lines, at), places)
    if part is None:
        raise BadText(at + 1)
    return (part, at + 1)


def read_block(name, lines, at, places):
    """The part that begins with the line of its world at the index, and the index of the line behind it."""
    first, further = HEADS[name]
    if line_at(lines, at) != " ".join((first,) + places):
        raise BadText(at + 1)
    end = at + 1
    while line_at(lines, end).startswith(further + " "):
        end += 1
    return (read_lines(name, lines, at, end, places), end)


def read_lines(name, lines, at, end, places):
    """The part that is written in the lines from the first index up to the second one."""
    part_lines = lines[at:end]
    try:
        return part_in(name, part_lines, places)
    except BadText as error:
        # The reader counts the lines of the part alone.
        raise BadText(at + error.line)


def part_in(name, lines, places):
    """The part that is written in these lines."""
    text = "\n".join(lines)
    if name == "web":
        return read_web(text)
    if name == "book":
        return read_book(text)
    if name == "tree":
        return tree_in(lines, places)
    _, told = read_told(text)
    return told


def read_ways(lines, at, places):
    """The ways from the index to the end, and the index behind them."""
    ways = []
    for number, line in enumerate(lines[at:], start=at + 1):
        way = way_in_line(line, places)
        if way is None or len(ways) == 7:
            raise BadText(number)
        ways.append(way)
    return (ways, len(lines))


def part_in_line(name, line, places):
    """The part that is written in the line, or None if the line is not written so."""
    word, _, rest = line.partition(" ")
    if name == "use":
        return use_in(rest, places) if word == "use" else None
    if name == "side":
        return rest if word == "side" and rest in ("first", "second") else None
    if name == "way":
        return way_in_line(line, places)
    return saying_in_line(WORDS[name], places, line)


def way_in_line(line, places):
    """The tuple of places of the world behind the word way, or None if the line is not written so."""
    word, *way = line.split(" ")
    if word != "way" or way == [] or any([place not in places for place in way]):
        return None
    return tuple(way)
