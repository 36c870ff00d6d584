"""What several tests need: all ways to write a track, told plainly, and tracks by chance."""

from reedtapes.gaps import gap_bytes


def plain_forms(event):
    """Each head and data by which point [5] lets an event be written."""
    word = event[1]
    if word == "mark":
        return [(240, [len(event[2])] + [ord(sign) for sign in event[2]])]
    told = [({"off": 128, "on": 144, "knob": 160, "voice": 176}[word] + event[2], list(event[3:]))]
    if word == "off" and event[4] == 64:
        told.append((144 + event[2], [event[3], 0]))
    return told


def ways(track, place=0, ahead=0):
    """All rows of bytes for the events from a place on, behind an event written with a head."""
    if place == len(track):
        return [[0, 255]]
    gap = gap_bytes(track[place][0] - (track[place - 1][0] if place else 0))
    told = []
    for head, data in plain_forms(track[place]):
        rest = ways(track, place + 1, head)
        starts = [gap + [head] + data]
        if head == ahead and head != 240:
            starts.append(gap + data)
        told.extend(start + row for start in starts for row in rest)
    return told


def chance_event(chance, tick, channels=2):
    word = chance.choice(["on", "off", "off", "off", "knob", "voice", "mark"])
    if word == "mark":
        return (tick, "mark", chance.choice(["", "a", "b c"]))
    channel = chance.randrange(channels)
    if word == "voice":
        return (tick, word, channel, chance.randrange(3))
    return (tick, word, channel, chance.randrange(3), chance.choice([1, 64, 64]))


def chance_track(chance, many, channels=2, most_step=1):
    tick, track = 0, []
    for _ in range(many):
        tick += chance.randint(0, most_step)
        track.append(chance_event(chance, tick, channels))
    return track


def chance_row(chance, track):
    """One of all rows of bytes for a track."""
    row, tick, ahead = [], 0, 0
    for event in track:
        head, data = chance.choice(plain_forms(event))
        row.extend(gap_bytes(event[0] - tick))
        if head != ahead or head == 240 or chance.random() < 0.5:
            row.append(head)
        row.extend(data)
        tick, ahead = event[0], head
    return row + [0, 255]


def wide_track(chance, many, most_step=300):
    """A track whose numbers go through all that they may be."""
    tick, track = chance.choice([0, 0, 5, 1000]), []
    for _ in range(many):
        word = chance.choice(["on", "on", "off", "knob", "voice", "mark"])
        if word == "mark":
            text = "".join(chance.choices("abcxyz0189 ", k=chance.randint(0, 12)))
            track.append((tick, "mark", text))
        elif word == "voice":
            track.append((tick, "voice", chance.randint(0, 15), chance.randint(0, 127)))
        else:
            last = chance.choice([1, 63, 64, 65, 127])
            track.append((tick, word, chance.choice([0, 3, 15]), chance.randint(0, 127), last))
        tick += chance.choice([0, 0, 1, chance.randint(0, most_step)])
    return track
