"""Tables as texts (point 101).

`write_rows` and `read_figure` take what has been looked at already.
"""

from nearkinds.errors import NoText
from nearkinds.tables import is_table, require_table

FIGURES = "0123456789"


def write_rows(rows):
    """The rows as their figures one behind the other, with `/` between each two."""
    return "/".join(["".join([str(part) for part in row]) for row in rows])


def table_text(table):
    """The text of the table."""
    require_table(table)
    return write_rows(table)


def read_figure(text):
    """The number that a text of one figure writes, -1 where it is none."""
    return FIGURES.find(text) if len(text) == 1 else -1


def read_table(text):
    """The table that the text writes, of anything."""
    if not isinstance(text, str):
        raise NoText("this is no text")
    # A sign that is no figure leaves -1 behind, which stands in no table.
    rows = tuple([tuple([read_figure(sign) for sign in row]) for row in text.split("/")])
    if not is_table(rows):
        raise NoText("this is no text of a table")
    return rows
