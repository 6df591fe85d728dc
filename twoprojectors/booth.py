"""The booth: a list of calls on one new house, and the list of their answers."""

from twoprojectors.actions import SHEET
from twoprojectors.actions import answer_call
from twoprojectors.house import House

# How many numbers each call has behind its own, by the call's number; a sheet's text tells its length itself.
SIZES = (0, 0, 3, 1, 2, 0, 1, 1, 1, 1, 1, 0)


def answers(calls):
    house = House()
    given = []
    at = 0
    while at < len(calls):
        call = calls[at]
        at += 1
        size = SIZES[call]
        if call == SHEET:
            size = calls[at]
            at += 1
        answer = answer_call(house, call, calls[at:at + size])
        at += size
        given.append(len(answer))
        given.extend(answer)
    return given
