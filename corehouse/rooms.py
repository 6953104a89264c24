"""The rooms of a house: who is in which, and who leaves for whom."""


def empty_rooms(count):
    return [None] * count


def room_with(rooms, user):
    for room, guest in enumerate(rooms):
        if guest == user:
            return room
    return None


def bring_in(house, user):
    if room_with(house.rooms, user) is None:
        house.rooms[house.turn] = user
        house.swaps = house.swaps + 1
        house.turn = (house.turn + 1) % len(house.rooms)
