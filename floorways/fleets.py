"""Fleets: carriers on one floor, the time, and the book of their ways."""

from floorways.books import Book
from floorways.carriers import carrier_of, stands_at
from floorways.costs import needs_of
from floorways.errors import BadCell, BadCharge, BadStops, Busy, Closed, NoCarrier, NoReserve, Taken
from floorways.seeks import Shut, is_free, sought
from floorways.ways import last_time, next_charge, place_at
from floorways.words import is_among

MOST_CARRIERS = 8
MOST_STOPS = 4


class Fleet:
    def __init__(self, floor):
        self.floor = floor
        self.now = 0
        # A carrier's number is its index in both.
        self.movers = []
        self.charges = []
        self.booked = Book()
        # Seekings ask for the needs of a kind again and again, and the floor stays as it is.
        self.needs = {}

    def time(self):
        return self.now

    def add(self, kind, full, cell, charge):
        mover = carrier_of(kind, full)
        if not stands_at(self.floor, mover, cell):
            raise BadCell("a carrier is added at a cell on which it may stand")
        if not is_among(charge, 0, full):
            raise BadCharge("a charge is a whole number from 0 to the full one")
        number = len(self.movers)
        if number == MOST_CARRIERS or not is_free(self.booked.free_from(number, cell), self.now):
            raise Taken("another one is at the cell now or later, or the fleet has 8 carriers")
        self.booked.put(number, (self.now, (cell,)))
        self.movers.append(mover)
        self.charges.append(charge)
        return number

    def numbers(self):
        return list(range(len(self.movers)))

    def carrier(self, number):
        self.check_number(number)
        return self.movers[number]

    def place(self, number):
        return place_at(self.way(number), self.now)

    def charge(self, number):
        self.check_number(number)
        return self.charges[number]

    def way(self, number):
        return self.booked.way(number)

    def is_idle(self, number):
        return self.now >= last_time(self.way(number))

    def book(self):
        return self.booked.copied()

    def sees(self, number, stops, least=None):
        self.check_number(number)
        self.check_stops(number, stops)
        if not self.is_idle(number):
            raise Busy("the carrier is on its way")
        reserve = self.need(number, stops[-1]) if least is None else least
        return self.sought_by(self.booked, number, stops, reserve)

    def send(self, number, stops, least=None):
        told = self.sees(number, stops, least)
        if isinstance(told, Shut):
            raise Closed(told)
        self.booked.put(number, told.path)
        return last_time(told.path)

    def pass_time(self, ticks=1):
        for tick in range(ticks):
            self.charges = [self.charge_behind(number) for number in self.numbers()]
            self.now += 1

    def charge_behind(self, number):
        way = self.booked.way(number)
        here = place_at(way, self.now)
        return next_charge(self.floor, self.movers[number], here, place_at(way, self.now + 1), self.charges[number])

    # A seeking now, of one that is idle, by another book than the fleet's own as well.
    def sought_by(self, book, number, stops, least):
        here = self.place(number)
        return sought(self.floor, self.movers[number], book, number, self.now, here, self.charges[number], stops, least)

    def need(self, number, cell):
        mover = self.movers[number]
        if mover.kind() not in self.needs:
            self.needs[mover.kind()] = needs_of(self.floor, mover)
        if cell not in self.needs[mover.kind()]:
            raise NoReserve("the carrier comes to no charger from the last stop")
        return self.needs[mover.kind()][cell]

    # Ways of several that make room for one another are booked all at once.
    def take_book(self, book):
        self.booked = book

    def check_number(self, number):
        if not is_among(number, 0, len(self.movers) - 1):
            raise NoCarrier("the fleet has no carrier of that number")

    def check_stops(self, number, stops):
        if not isinstance(stops, list) or not is_among(len(stops), 1, MOST_STOPS):
            raise BadStops("stops are a list of 1 to 4 cells")
        if not all([stands_at(self.floor, self.movers[number], stop) for stop in stops]):
            raise BadStops("a stop is a cell on which the carrier may stand")
