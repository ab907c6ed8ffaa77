"""Ways: rows of goers' deeds that lead from one standing to another, and the judging of them."""

from cameposts.bars import find_bar, is_due, need_question, view_of
from cameposts.deeds import deeds_of, find_row_wrong, first_other, lead
from cameposts.rows import find_row
from cameposts.signs import find_unlike
from cameposts.towns import is_pair

MOST_WAY = 1300


def count_abouts(town, one, other, goers):
    """Tell how few abouts lead from one to other, where goers can come there at all."""
    return len(find_unlike(town, view_of(one, goers), view_of(other, goers)))


def judge_row(town, one, other, row, goers, abouts):
    """Tell None of a row that leads from one to other as it should, else the first that is not so."""
    wrong = find_row_wrong(one, row)
    if wrong is not None:
        return ("row", wrong)
    number = first_other(row, [deed for deed in deeds_of(goers) if abouts or deed[0] == "step"])
    if number is not None:
        return ("goer", number)
    if lead(town, one, row) != other:
        return ("end",)
    many = sum([1 for word, _ in row if word == "about"])
    return None if many == count_abouts(town, one, other, goers) else ("abouts",)


def way_between(town, one, other, *, goers=None, abouts=True):
    """Tell a row of goers' deeds that leads from one to other, or the first paper that shows that none does."""
    names = need_question(town, one, other, goers, abouts)
    paper = find_bar(town, one, other, names, abouts)
    if paper is not None:
        return ("bar", paper)
    return ("row", find_row(town, view_of(one, names), view_of(other, names)))


def least_abouts(town, one, other, *, goers=None):
    """Tell how few abouts lead from one to other, None where nothing does."""
    names = need_question(town, one, other, goers, True)
    if find_bar(town, one, other, names, True) is not None:
        return None
    return count_abouts(town, one, other, names)


def way_judged(town, one, other, thing, *, goers=None, abouts=True):
    """Tell None of a way that shows what it says, of anything else the first that is not so."""
    names = need_question(town, one, other, goers, abouts)
    if not is_pair(thing) or thing[0] not in ("row", "bar"):
        return ("way",)
    if thing[0] == "row":
        return judge_row(town, one, other, thing[1], names, abouts)
    return None if is_due(town, one, other, thing[1], names, abouts) else ("bar",)
