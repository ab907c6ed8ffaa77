"""Deeds and rows of deeds: what they are, where they lead, and how to come back."""

from cameposts.errors import NoRow
from cameposts.towns import gather_all_ends, need_standing

MOST_DEEDS = 4000

# So many first deeds of a row are a sample of it.
SAMPLE = 32


def deeds_of(names):
    """List the deeds of those who have the names."""
    return [(word, name) for word in ("step", "about") for name in names]


def put_usual_ahead(deeds, row):
    """List the deeds anew, those ahead that come oftener at the row's beginning."""
    sample = row[:SAMPLE]
    ranks = sorted([(-sample.count(deed), number) for number, deed in enumerate(deeds)])
    return [deeds[number] for _, number in ranks]


def first_other(row, deeds):
    """Tell the number of the row's first deed that is none of these, None where all are."""
    # A row may be long. To look for a deed as a whole takes less time than to
    # look at its parts, and least where it is found soon.
    usual = put_usual_ahead(deeds, row)
    for deed in row:
        if deed not in usual:
            return row.index(deed)
    return None


def find_row_wrong(standing, thing):
    """Tell None of a row for the walkers of what is a standing, of anything else the first that is not so."""
    if not isinstance(thing, list) or len(thing) > MOST_DEEDS:
        return ("row",)
    number = first_other(thing, deeds_of([name for name, _ in standing[1]]))
    return None if number is None else ("deed", number)


def row_wrong(town, standing, thing):
    """Tell None of a row for the standing's walkers, of anything else the first that is not so."""
    need_standing(town, standing)
    return find_row_wrong(standing, thing)


def need_row(town, standing, row):
    """Refuse what is no town, then what is no standing of it, then what is no row for its walkers."""
    wrong = row_wrong(town, standing, row)
    if wrong is not None:
        raise NoRow(wrong)


def walk(town, standing, row):
    """Do the row's deeds: tell the posts, by name what each walker faces, and the trail, all as numbers of ends."""
    # An end's number is its place among all ends, in the order of tuples: the
    # other end of its road has the number that differs in the last bit alone.
    # With numbers, and without a call for each deed, long rows are done soon.
    places = [place for road in town[1] for place in road]
    posts = [2 * road + side for road, side in standing[0]]
    faces = {name: 2 * road + side for name, (road, side) in standing[1]}
    trail = []
    for word, name in row:
        end = faces[name]
        if word == "step":
            place = places[end]
            gone = posts[place] ^ 1
            posts[place] = end
        else:
            gone = end ^ 1
        faces[name] = gone
        trail.append(gone)
    return posts, faces, trail


def lead(town, standing, row):
    """Tell the standing behind all deeds of what is a row."""
    posts, faces, _ = walk(town, standing, row)
    ends = gather_all_ends(town)
    return ([ends[post] for post in posts], [(name, ends[faces[name]]) for name in faces])


def led_by(town, standing, row):
    """Tell the standing behind all deeds of the row."""
    need_row(town, standing, row)
    return lead(town, standing, row)


def trail_of(town, standing, row):
    """List the ends that the deeds' walkers face, each behind its own deed."""
    need_row(town, standing, row)
    _, _, trail = walk(town, standing, row)
    ends = gather_all_ends(town)
    return [ends[number] for number in trail]


def row_back(town, standing, row):
    """Tell a row that leads from what the row leads to, back to the standing."""
    need_row(town, standing, row)
    steppers = [name for name, _ in standing[1] if ("step", name) in row]
    # Faced about, a walker goes back through a place just as it came, since
    # the post there still points to the end by which it came.
    abouts = [("about", name) for name in steppers]
    back = abouts + row[::-1] + abouts
    if len(back) > MOST_DEEDS:
        raise NoRow(("row",))
    return back
