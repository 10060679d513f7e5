"""Turning out: one is sent, and the idle ones in its way make room."""

from floorways.errors import Closed, Jammed
from floorways.rests import rested
from floorways.seeks import Found, Shut
from floorways.ways import first_meeting


def cleared(fleet, number, stops):
    told = fleet.sees(number, stops)
    if isinstance(told, Shut):
        told = seen_without_idle(fleet, number, stops)
    met = idle_met(fleet, number, told.path)
    book = fleet.book()
    for other in met:
        book.drop(other)
    book.put(number, told.path)
    for other in met:
        book.put(other, path_to_rest(fleet, book, other))
    fleet.take_book(book)
    return met


def idle_beside(fleet, number):
    return [other for other in fleet.numbers() if other != number and fleet.is_idle(other)]


def seen_without_idle(fleet, number, stops):
    book = fleet.book()
    for other in idle_beside(fleet, number):
        book.drop(other)
    told = fleet.sought_by(book, number, stops, fleet.need(number, stops[-1]))
    if isinstance(told, Shut):
        raise Closed(told)
    return told


# The idle ones whose standing a path meets, by when it meets them first, then by their numbers.
def idle_met(fleet, number, path):
    met = []
    for other in idle_beside(fleet, number):
        meeting = first_meeting(path, (fleet.time(), (fleet.place(other),)))
        if meeting is not None:
            met.append((meeting[0], other))
    return [other for time, other in sorted(met)]


def path_to_rest(fleet, book, number):
    here = fleet.place(number)
    told = rested(fleet.floor, fleet.carrier(number), book, number, fleet.time(), here, fleet.charge(number))
    if isinstance(told, Found):
        return told.path
    raise Jammed(number)
