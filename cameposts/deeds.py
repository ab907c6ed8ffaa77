"""Deeds and rows of deeds: what they are, where they lead, and how to come back."""

from cameposts.errors import NoRow
from cameposts.towns import is_pair, need_standing, other_end, place_of

MOST_DEEDS = 4000


def is_deed(thing, names):
    """Tell whether it is a step or an about of one who has one of the names."""
    return is_pair(thing) and thing[0] in ("step", "about") and thing[1] in names


def row_wrong(town, standing, thing):
    """Tell None of a row for the standing's walkers, of anything else the first that is not so."""
    need_standing(town, standing)
    if not isinstance(thing, list) or len(thing) > MOST_DEEDS:
        return ("row",)
    names = [walker[0] for walker in standing[1]]
    for number, deed in enumerate(thing):
        if not is_deed(deed, names):
            return ("deed", number)
    return None


def need_row(town, standing, row):
    """Refuse what is no town, then what is no standing of it, then what is no row for its walkers."""
    wrong = row_wrong(town, standing, row)
    if wrong is not None:
        raise NoRow(wrong)


def do_deed(town, posts, faces, deed):
    """Change posts, and faces (by name the end that each walker faces), as the deed does."""
    word, name = deed
    end = faces[name]
    if word == "about":
        faces[name] = other_end(end)
    else:
        place = place_of(town, end)
        faces[name] = other_end(posts[place])
        posts[place] = end


def led_by(town, standing, row):
    """Tell the standing behind all deeds of the row."""
    need_row(town, standing, row)
    posts = list(standing[0])
    faces = dict(standing[1])
    for deed in row:
        do_deed(town, posts, faces, deed)
    return (posts, [(name, faces[name]) for name in faces])


def trail_of(town, standing, row):
    """List the ends that the deeds' walkers face, each behind its own deed."""
    need_row(town, standing, row)
    posts = list(standing[0])
    faces = dict(standing[1])
    trail = []
    for deed in row:
        do_deed(town, posts, faces, deed)
        trail.append(faces[deed[1]])
    return trail


def row_back(town, standing, row):
    """Tell a row that leads from what the row leads to, back to the standing."""
    need_row(town, standing, row)
    steppers = sorted({name for word, name in row if word == "step"})
    # Faced about, a walker goes back through a place just as it came, since
    # the post there still points to the end by which it came.
    abouts = [("about", name) for name in steppers]
    back = abouts + list(reversed(row)) + abouts
    if len(back) > MOST_DEEDS:
        raise NoRow(("row",))
    return back
