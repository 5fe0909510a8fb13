"""What the calls of a game tell: the parts between the places, and the answers to a waiting pick.

The rows are the tuple of the two; the calls are those that are not taken back, in turns picks
("pick", side, place) and answers ("answer", place).
"""

from pickdepths.alike import good_answers_to


def waiting_pick(calls):
    """Return the tuple (side, place) of the pick that waits for its answer, None if none does."""
    if len(calls) % 2 == 0:
        return None
    return calls[-1][1:]


def picks_made(calls):
    """Return how many picks are made, one that waits counted."""
    return (len(calls) + 1) // 2


def answered_pairs(calls):
    """Return the ascending list of the tuples of the places, one in each row, of answered picks."""
    pairs = []
    # A pick that waits has no answer behind it, and is left out.
    for pick, answer in zip(calls[::2], calls[1::2]):
        if pick[1] == 0:
            pairs.append((pick[2], answer[1]))
        else:
            pairs.append((answer[1], pick[2]))
    return sorted(pairs)


def taken_places(calls, side):
    """Return the list of the places of a row that were picked or answered with."""
    places = [pair[side] for pair in answered_pairs(calls)]
    waiting = waiting_pick(calls)
    if waiting is not None and waiting[0] == side:
        places.append(waiting[1])
    return places


def bounds_of_parts(rows, calls):
    """Return the list of the parts, each as the tuple of its (start, end) in both rows."""
    bounds = []
    starts = (0, 0)
    for ends in answered_pairs(calls) + [(len(rows[0]), len(rows[1]))]:
        bounds.append(((starts[0], ends[0]), (starts[1], ends[1])))
        starts = (ends[0] + 1, ends[1] + 1)
    return bounds


def parts_between(rows, calls):
    """Return the list of the tuples (part, other part) of the rows between the answered picks."""
    parts = []
    for (start, end), (other_start, other_end) in bounds_of_parts(rows, calls):
        parts.append((rows[0][start:end], rows[1][other_start:other_end]))
    return parts


def possible_answers(rows, calls):
    """Return the list of the places with which the waiting pick can be answered at all."""
    side, place = waiting_pick(calls)
    places = []
    for bounds in bounds_of_parts(rows, calls):
        start, end = bounds[side]
        # In the same sequence stand only the places of the part that the pick lies in.
        if start <= place < end:
            for other_place in range(bounds[1 - side][0], bounds[1 - side][1]):
                if rows[1 - side][other_place] == rows[side][place]:
                    places.append(other_place)
    return places


def good_answers_waiting(kinds, rows, calls, picks):
    """Return the list of the places to answer the waiting pick with, so as to last so many picks."""
    side, place = waiting_pick(calls)
    good = []
    for bounds in bounds_of_parts(rows, calls):
        start, end = bounds[side]
        other_start, other_end = bounds[1 - side]
        part, other_part = rows[side][start:end], rows[1 - side][other_start:other_end]
        if start <= place < end:
            found = good_answers_to(kinds, part, place - start, other_part, picks + 1)
            good = [other_start + other_place for other_place in found]
        elif not kinds.alike(part, other_part, picks):
            # A later pick in this part wins, whatever the answer to the waiting one.
            return []
    return good


def can_be_answered(kinds, rows, calls, picks):
    """Tell whether the answering player can last so many picks, and the one that waits."""
    if waiting_pick(calls) is not None:
        return len(good_answers_waiting(kinds, rows, calls, picks)) > 0
    for part, other_part in parts_between(rows, calls):
        if not kinds.alike(part, other_part, picks):
            return False
    return True
