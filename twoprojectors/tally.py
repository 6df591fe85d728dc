"""How often the frames to be shown were on the screen: those never shown, and those shown twice or oftener."""

from twoprojectors.sheet import last_frame

NEVER = 0
# Or oftener: above this nobody asks.
TWICE = 2


# For each frame at which the number of showings changes, by how many it does. The runs are gone through, not their
# frames, so that long reels cost no more than short ones.
def changes_in(runs, reel):
    changes = {}
    for run in runs:
        if run[1] == reel:
            first = run[2]
            behind = run[3] + 1
            changes[first] = changes.get(first, 0) + 1
            changes[behind] = changes.get(behind, 0) - 1
    return changes


# The frames 0 to last, parted into pieces: a first frame, a last frame, how often each frame between was shown.
def pieces_of(runs, reel, last):
    changes = changes_in(runs, reel)
    pieces = []
    first = 0
    times = 0
    for frame in sorted(list(changes)):
        if frame > first:
            pieces.append((first, frame - 1, times))
            first = frame
        times += changes[frame]
    if first <= last:
        pieces.append((first, last, times))
    return pieces


# Of one reel: each longest run of frames that were shown so often, as its reel, its first and its last frame.
def spans_of(runs, reel, last, often):
    spans = []
    for piece in pieces_of(runs, reel, last):
        if min(piece[2], TWICE) == often:
            if len(spans) > 0 and spans[-1][2] == piece[0] - 1:
                spans[-1] = (reel, spans[-1][1], piece[1])
            else:
                spans.append((reel, piece[0], piece[1]))
    return spans


def frames_shown(house, often):
    spans = []
    for number, reel in enumerate(house.sheet.reels):
        spans.extend(spans_of(house.runs, number, last_frame(reel), often))
    return spans
