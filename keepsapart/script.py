"""Scripts: lines of commands that run on a desk."""

from keepsapart.desk import Desk
from keepsapart.errors import BadPlace, BadText, InUse, NoChange, NotTold, Repeated, TooMany, Unknown
from keepsapart.places import check_many
from keepsapart.saytext import read_saying, told_text
from keepsapart.webtext import web_line

# The commands that are one word, and those with a place or a written saying behind the word.
WORDS = ("back", "forth", "shorten", "load", "show", "great")
PLACE_WORDS = ("add", "drop")
SAYING_WORDS = ("tell", "untell", "ask", "why")


def run_script(lines):
    """The answers to the lines, one for each."""
    check_many(lines, 40)
    desk = Desk()
    return [answer_to(desk, line) for line in lines]


def answer_to(desk, line):
    """The answer to the line, which may be refused."""
    try:
        return run_line(desk, line)
    except BadText:
        return "refused BadText"
    except BadPlace:
        return "refused BadPlace"
    except Repeated:
        return "refused Repeated"
    except Unknown:
        return "refused Unknown"
    except TooMany:
        return "refused TooMany"
    except InUse:
        return "refused InUse"
    except NotTold:
        return "refused NotTold"
    except NoChange:
        return "refused NoChange"


def run_line(desk, line):
    """Run the line on the desk; its answer if it is not refused."""
    if line in WORDS:
        return run_word(desk, line)
    word, space, rest = line.partition(" ")
    if space == "" or word not in PLACE_WORDS + SAYING_WORDS:
        raise BadText(1)
    if word == "add":
        desk.add_place(rest)
        return "ok"
    if word == "drop":
        desk.drop_place(rest)
        return "ok"
    return run_saying(desk, word, read_saying(rest))


def run_word(desk, word):
    """Run a command that is one word."""
    if word == "load":
        return f"load {desk.load}"
    if word == "show":
        return told_text(desk.places, desk.told).replace("\n", " ; ")
    if word == "great":
        return great_answer(desk)
    if word == "shorten":
        dropped = desk.shorten()
        return f"dropped {dropped}"
    if word == "back":
        desk.back()
    else:
        desk.forth()
    return "ok"


def great_answer(desk):
    """The number of the greatest webs, and the webs."""
    webs = desk.greatest()
    return " : ".join([f"great {len(webs)}"] + [web_line(web) for web in webs])


def run_saying(desk, word, saying):
    """Run a command that has a saying behind its word."""
    if word == "tell":
        desk.tell(saying)
        return "ok"
    if word == "untell":
        desk.untell(saying)
        return "ok"
    if word == "ask":
        return "yes" if desk.goal_follows(saying) else "no"
    web = desk.goal_counterweb(saying)
    return "yes" if web is None else "no " + web_line(web)
