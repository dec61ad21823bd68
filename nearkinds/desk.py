"""A desk that has a table and is told lines (point 102).

A deed takes the table and the line's figures and tells the table that it makes; a question
takes the same and tells a text. Both may refuse the figures.
"""

from nearkinds.errors import NoDeed, NoKind, NoKinds, NoLine, NoPlace
from nearkinds.lots import most
from nearkinds.tables import count_kinds, put_names, require_place, search_break, shares_of, take_places
from nearkinds.texts import read_figure, read_table, write_rows

FIRST_TABLE = ((0,),)
NEW_TABLE = "table "


def require_two_kinds(table, figures):
    """Refuse what is not two unlike kinds of the table from 1 on."""
    one, other = figures
    if one == other or 0 in figures or max(figures) >= count_kinds(table):
        raise NoKind("these are no two unlike kinds from 1 on")


def exchanged(many, figures):
    """The numbers below many in order, with these two exchanged."""
    one, other = figures
    numbers = list(range(many))
    numbers[one] = other
    numbers[other] = one
    return numbers


def join_kinds(table, figures):
    """Two kinds made one by the lesser name, those behind the greater one moved up."""
    require_two_kinds(table, figures)
    lesser, greater = sorted(figures)
    names = list(range(greater)) + [lesser] + list(range(greater, count_kinds(table) - 1))
    return put_names(table, names)


def exchange_kinds(table, figures):
    """Two kinds by one another's names."""
    require_two_kinds(table, figures)
    return put_names(table, exchanged(count_kinds(table), figures))


def exchange_places(table, figures):
    """Two places by one another's numbers."""
    one, other = figures
    require_place(table, one)
    require_place(table, other)
    if one == other:
        raise NoPlace("these are no two unlike places")
    return take_places(table, exchanged(len(table), figures))


def tell_table(table, figures):
    """The text of the table."""
    return write_rows(table)


def tell_steady(table, figures):
    """Whether the table is steady."""
    return "yes" if search_break(table) is None else "no"


def tell_break(table, figures):
    """The places of the first break."""
    found = search_break(table)
    return "none" if found is None else " ".join([str(place) for place in found])


def tell_shares(table, figures):
    """The shares of two places."""
    one, other = figures
    return write_rows(shares_of(table, one, other))


def tell_most(table, figures):
    """The greatest number of places of a lot that is free for these kinds."""
    try:
        return str(most(table, figures))
    except NoKinds:
        raise NoKind("these are no rising kinds from 1 on") from None


DEEDS = {"one": join_kinds, "kinds": exchange_kinds, "places": exchange_places}
QUESTIONS = {
    "table": tell_table, "steady": tell_steady, "break": tell_break, "shares": tell_shares, "most": tell_most,
}
FIGURES_BEHIND = {"one": 2, "kinds": 2, "places": 2, "back": 0, "table": 0, "steady": 0, "break": 0, "shares": 2}


def may_have(word, many):
    """Whether there is a line of the word with so many figures behind it."""
    if word == "most":
        return many > 0
    return FIGURES_BEHIND.get(word) == many


def read_line(line):
    """The word of a line and the tuple of the figures behind it, of anything."""
    if not isinstance(line, str):
        raise NoLine("this is no text")
    word, *behind = line.split(" ")
    figures = tuple([read_figure(part) for part in behind])
    if -1 in figures or not may_have(word, len(figures)):
        raise NoLine("the desk knows no such line")
    return (word, figures)


class Desk:
    """A desk keeps the first table and, behind it, the table that each deed that stands has made."""

    def __init__(self):
        self.tables = [FIRST_TABLE]

    def lay(self, table):
        """A deed is done that makes the table."""
        self.tables.append(table)
        return "ok"

    def undo(self):
        """The last deed that stands is undone."""
        if len(self.tables) == 1:
            raise NoDeed("no deed stands")
        self.tables.pop()
        return "ok"

    def say(self, line):
        """The answer to a line, of anything."""
        if isinstance(line, str) and line.startswith(NEW_TABLE):
            return self.lay(read_table(line.removeprefix(NEW_TABLE)))
        word, figures = read_line(line)
        if word == "back":
            return self.undo()
        table = self.tables[-1]
        if word in DEEDS:
            deed = DEEDS[word]
            return self.lay(deed(table, figures))
        question = QUESTIONS[word]
        return question(table, figures)
