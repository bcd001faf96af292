"""Tables with names as texts: written and read."""

from lotmeal.errors import Double, NoName, NoText
from lotmeal.figures import in_figures, is_figures
from lotmeal.tables import table_of

LETTERS = "abcdefghijklmnopqrstuvwxyz"
MOST_LETTERS = 8
MOST_COUNT_FIGURES = 9
FIRST_WORD = "things"


def is_name(word):
    return word != "" and len(word) <= MOST_LETTERS and all([sign in LETTERS for sign in word])


def is_count(word):
    return len(word) <= MOST_COUNT_FIGURES and is_figures(word)


def check_words(lines):
    """Refuse lines, as lists of words, that are not written as a table with names is."""
    names = lines[0][1::2]
    counts = lines[0][2::2]
    if lines[0][0] != FIRST_WORD or len(names) != len(counts):
        raise NoText("the first line is the word things, then names and counts by turns")
    if not all([is_name(word) for word in names]) or not all([is_count(word) for word in counts]):
        raise NoText("a thing has a name of small letters and a count in figures")
    for words in lines[1:]:
        if not all([is_name(word) for word in words]):
            raise NoText("an asker's line has names of small letters alone")


def check_double(names):
    if len(set(names)) != len(names):
        raise Double("two have one name")


def read_order(things, words):
    if any([word not in things for word in words]):
        raise NoName("an order has a thing that the first line has not")
    return [things.index(word) for word in words]


def read_lines(texts):
    """A table with names, read from its lines."""
    lines = [text.split(" ") for text in texts]
    check_words(lines)
    things = lines[0][1::2]
    counts = [int(word) for word in lines[0][2::2]]
    askers = [words[0] for words in lines[1:]]
    orders = [read_order(things, words[1:]) for words in lines[1:]]
    check_double(things)
    check_double(askers)
    return (things, askers, table_of(counts, orders))


def read_table(text):
    if not isinstance(text, str):
        raise NoText("a table is read from a text alone")
    return read_lines(text.split("\n"))


def written(things, askers, table):
    lines = [[FIRST_WORD]]
    for name, count in zip(things, table[0]):
        lines[0].extend([name, in_figures(count)])
    for name, order in zip(askers, table[1]):
        lines.append([name] + [things[thing] for thing in order])
    return "\n".join([" ".join(words) for words in lines])
