"""Tracks as bytes: which heads can be left out, and in which order the most of them."""

from reedtapes.events import END_FORCE
from reedtapes.gaps import gap_bytes

# The head of each word; all but a mark's have the channel added.
HEADS = {"off": 128, "on": 144, "knob": 160, "voice": 176, "mark": 240}
NO_HEAD = 0
END = (0, 255)
# A tick with more events than these keeps their order.
MOST_FREE = 6


def forms(event):
    """The pairs (head, data) that an event can be written with, by rising heads."""
    head = HEADS[event[1]]
    if event[1] == "mark":
        return [(head, [len(event[2])] + [ord(sign) for sign in event[2]])]
    told = [(head + event[2], list(event[3:]))]
    if event[1] == "off" and event[4] == END_FORCE:
        told.append((HEADS["on"] + event[2], [event[3], 0]))
    return told


def left_by(head):
    """The head that the event behind one written with this head can leave out."""
    return NO_HEAD if head == HEADS["mark"] else head


def head_cost(ahead, head):
    """How many bytes a head takes behind an event that leaves another one, or the same."""
    return 0 if head == ahead else 1


def gap_at(track, place):
    """The bytes of the gap between the event at a place and the one ahead."""
    ahead = track[place - 1][0] if place > 0 else 0
    return gap_bytes(track[place][0] - ahead)


def heads_at(track, place):
    """The heads that some form of the event ahead of a place leaves."""
    if place == 0:
        return [NO_HEAD]
    return [left_by(head) for head, _ in forms(track[place - 1])]


def form_cost(form, ahead, after):
    """The bytes of a form behind a head, and of all behind it by the prices there."""
    head, data = form
    return head_cost(ahead, head) + len(data) + after[left_by(head)]


def best_form(event, ahead, after):
    """The form of an event with which it and all behind it take the fewest bytes."""
    best, *others = forms(event)
    for form in others:
        if form_cost(form, ahead, after) < form_cost(best, ahead, after):
            best = form
    return best


def prices(track):
    """For each place the pairs (head ahead of it, fewest bytes from there on)."""
    told = [[(head, len(END)) for head in heads_at(track, len(track))]]
    for place in reversed(range(len(track))):
        told.append(prices_at(track, place, dict(told[-1])))
    told.reverse()
    return told


def prices_at(track, place, after):
    """The prices of a place, by those of the place behind it."""
    told = []
    gap = len(gap_at(track, place))
    for ahead in heads_at(track, place):
        form = best_form(track[place], ahead, after)
        told.append((ahead, gap + form_cost(form, ahead, after)))
    return told


def cost(track):
    """How many bytes the track is written in."""
    return prices(track)[0][0][1]


def written(track):
    """The track in the fewest bytes."""
    row = []
    ahead = NO_HEAD
    table = prices(track)
    for place, event in enumerate(track):
        head, data = best_form(event, ahead, dict(table[place + 1]))
        row.extend(gap_at(track, place))
        if head_cost(ahead, head) > 0:
            row.append(head)
        row.extend(data)
        ahead = left_by(head)
    row.extend(list(END))
    return row


def thrifty(track):
    """The track in an order, of those that are free, that is written in the fewest bytes."""
    paths = {NO_HEAD: (0, [])}
    for group in by_ticks(track):
        paths = paths_through(paths, in_order(group))
    _, told = min(list(paths.values()), key=lambda path: path[0])
    return told


def by_ticks(track):
    """The events of a track as lists, one for each tick."""
    groups = []
    for event in track:
        if groups and groups[-1][0][0] == event[0]:
            groups[-1].append(event)
        else:
            groups.append([event])
    return groups


def in_order(group):
    """The events of a tick as lists, each of which keeps its order."""
    if len(group) > MOST_FREE:
        return [group]
    rows = {}
    for event in group:
        owner = "mark" if event[1] == "mark" else event[2]
        rows.setdefault(owner, []).append(event)
    return list(rows.values())


def paths_through(paths, rows):
    """The cheapest paths behind a tick, by the head that they leave, from those ahead of it.

    A path is a pair (how many heads were written, the events in their order).
    """
    start = tuple([0 for _ in rows])
    layer = {(start, head): path for head, path in paths.items()}
    for _ in range(sum([len(row) for row in rows])):
        layer = one_further(layer, rows)
    return {head: path for (_, head), path in layer.items()}


def one_further(layer, rows):
    """The cheapest paths with an event more, by how many of each row were taken, and by head."""
    further = {}
    for (taken, ahead), path in layer.items():
        for at, row in enumerate(rows):
            if taken[at] < len(row):
                now = taken[:at] + (taken[at] + 1,) + taken[at + 1:]
                go_on(further, now, ahead, path, row[taken[at]])
    return further


def go_on(further, taken, ahead, path, event):
    """Keep the path with an event behind it, in each form, where none is cheaper.

    Only heads are counted: gaps and data take as many bytes in each order and form.
    """
    many, events = path
    for head, _ in forms(event):
        price = many + head_cost(ahead, head)
        key = (taken, left_by(head))
        if key not in further or price < further[key][0]:
            further[key] = (price, events + [event])
