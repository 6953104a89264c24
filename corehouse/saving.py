"""A house told as a tuple, and taken of one."""

from corehouse.house import House
from corehouse.people import person_of, picture


def saved(house):
    return (
        tuple([picture(person) for person in house.people]),
        tuple([tuple(events) for events in house.diaries]),
        tuple(house.rooms),
        house.quantum,
        house.beat,
        house.runs,
        tuple(house.row),
        house.steps,
        house.idle,
        house.ticks,
        house.swaps,
        house.turn,
        house.left,
    )


def taken(told):
    house = House(len(told[0]), len(told[2]), told[3], told[4])
    house.people = [person_of(shape) for shape in told[0]]
    house.diaries = [list(events) for events in told[1]]
    house.rooms = list(told[2])
    house.runs = told[5]
    house.row = list(told[6])
    house.steps = told[7]
    house.idle = told[8]
    house.ticks = told[9]
    house.swaps = told[10]
    house.turn = told[11]
    house.left = told[12]
    return house
