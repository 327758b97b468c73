"""Which rules are broken in a book, closures, and books made to try the rules on."""

from keepsapart.books import Book
from keepsapart.errors import BadNumber, BadRule, TooFew
from keepsapart.places import check_many, check_places, lot_union
from keepsapart.rules import check_rules, is_use, uses_on
from keepsapart.sayings import all_sayings, turned
from keepsapart.steps import closing_steps, uses_by_premise

# The sample book of each rule: a, b and c stand for the first three places.
SAMPLES = {
    1: (("a", "", "bc"), ("a", "", "b"), ("a", "", "c"), ("a", "b", "c"), ("a", "c", "b")),
    2: (("a", "", "bc"), ("bc", "", "a")),
    3: (("a", "", "b"), ("b", "", "a"), ("a", "", "c"), ("c", "", "a")),
    4: (("a", "c", "b"), ("b", "c", "a"), ("a", "b", "c"), ("c", "b", "a")),
    5: (("a", "", "b"), ("b", "", "a"), ("a", "c", "b"), ("b", "c", "a")),
}

# The base sayings of the small books, in the order of their powers of two.
BASES = (("a", "", "b"), ("a", "", "c"), ("a", "b", "c"), ("a", "c", "b"), ("b", "", "c"), ("b", "a", "c"))


def is_broken_use(book, use):
    """True if the raw use is a use over the book's world and is broken in the book."""
    return is_use(book.places, use) and breaks(book, use)


def breaks(book, use):
    """True if all premises of the use are in the book and none of its conclusions is."""
    _, premises, conclusions = use
    return all([saying in book for saying in premises]) and not any([saying in book for saying in conclusions])


def broken_uses(book, *, rules=(1, 2, 3, 4, 5)):
    """All uses by these rules that are broken in the book, ascending."""
    check_rules(rules, 5)
    # A broken use has its first premise in the book, so no other uses are looked at.
    uses = [use for rule in rules for saying in book for use in uses_on(book.places, saying, rule)]
    return sorted([use for use in uses if breaks(book, use)])


def broken_use(book, *, rules=(1, 2, 3, 4, 5)):
    """The first use by these rules that is broken in the book, or None."""
    broken = broken_uses(book, rules=rules)
    return broken[0] if broken else None


def rules_broken(book):
    """The numbers of the rules that are broken in the book, ascending."""
    return sorted({use[0] for use in broken_uses(book)})


def breaks_alone(book):
    """The number of the only rule that is broken in the book, or None."""
    broken = rules_broken(book)
    return broken[0] if len(broken) == 1 else None


def closure(book, *, rules=(1, 2, 3, 4)):
    """The least book closed under these rules that contains a book of at most 4 places."""
    check_many(book.places, 4)
    check_rules(rules, 4)
    steps = closing_steps(uses_by_premise(book.places, rules), [], list(book.sayings))
    return Book(book.places, book.sayings + tuple([use[2][0] for use in steps]))


def singles_of(book):
    """The sayings of the book with one place on the left and one on the right, ascending."""
    return [saying for saying in book if len(saying[0]) == 1 and len(saying[2]) == 1]


def filled(book):
    """The book of all sayings whose single sayings are all in the book."""
    return Book(book.places, [saying for saying in all_sayings(book.places) if is_filled(book, saying)])


def is_filled(book, saying):
    """True if the book has the single saying of each place on the left and each one on the right."""
    left, between, right = saying
    return all([((a,), between, (b,)) in book for a in left for b in right])


def sample_book(rule, places):
    """A book over 3 to 5 places that breaks this rule and no other."""
    if rule not in (1, 2, 3, 4, 5):
        raise BadRule(rule)
    check_size(places, 5)
    return Book(places, [saying_of(places, letters) for letters in SAMPLES[rule]])


def small_book(places, number):
    """The book over three places of the base sayings that the number names, and the turned ones."""
    check_size(places, 3)
    if number < 0 or number > 63:
        raise BadNumber(number)
    sayings = [saying_of(places, letters) for k, letters in enumerate(BASES) if number >> k & 1]
    return Book(places, sayings + [turned(saying) for saying in sayings])


def check_size(places, most):
    """Refuse what is not a world of at least 3 places and of not more than the bound."""
    check_places(places, most=most)
    if len(places) < 3:
        raise TooFew(3, len(places))


def saying_of(places, letters):
    """The saying in which a, b and c stand for the first three places; further places are between."""
    left, between, right = [tuple([places["abc".index(letter)] for letter in word]) for word in letters]
    return (left, lot_union(between, places[3:]), right)
