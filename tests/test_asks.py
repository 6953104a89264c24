import unittest

from corehouse.people import happen, picture
from helpers import (
    ADD,
    ASK,
    FETCH,
    HEAR,
    HEARD,
    LOOK,
    ROOM,
    SAY,
    SLEEP,
    STOP,
    STORE,
    UserChecks,
    cells_with,
    changed_cells,
    full_user,
    told,
)

STEP = ("step",)
FARS = (0, 1)
# A place, the one behind it, and the one behind that.
WALKS = ((0, 1, 2), (9, 10, 11), (61, 62, 63), (62, 63, 0), (63, 0, 1))


class AskChecks(UserChecks):
    def ready(self, far, place, at=9, **values):
        """A ready user with the ask at its at, and with values in every field."""
        cells = list(full_user()[0])
        for where, number in values.pop("more", {}).items():
            cells[where] = number
        cells[at] = told(ASK, far, place)
        return full_user(cells=cells, at=at, **values)

    def check_ask(self, ahead, **changes):
        changes.setdefault("done", 41)
        return self.check_event(ahead, STEP, **changes)


class HeardTest(AskChecks, unittest.TestCase):
    def test_it_skips_if_the_inbox_has_letters(self):
        for far in FARS:
            for at, behind, skipped in WALKS:
                self.check_ask(self.ready(far, HEARD, at, inbox=()), at=behind)
                for inbox in ((0,), (1, 2), (7,) * 16):
                    self.check_ask(self.ready(far, HEARD, at, inbox=inbox), at=skipped)

    def test_the_outbox_is_not_asked(self):
        self.check_ask(self.ready(0, HEARD, inbox=(), outbox=(1,) * 16), at=10)
        self.check_ask(self.ready(0, HEARD, inbox=(5,), outbox=()), at=11)


class HearTest(AskChecks, unittest.TestCase):
    def test_the_first_letter_becomes_the_total(self):
        for far in FARS:
            for at, behind, skipped in WALKS:
                for letter in (0, 1, 255):
                    self.check_ask(self.ready(far, HEAR, at, inbox=(letter,)), inbox=(), total=letter, at=behind)
                    two = self.ready(far, HEAR, at, inbox=(letter, 9, 9))
                    self.check_ask(two, inbox=(9, 9), total=letter, at=behind)

    def test_of_16_letters(self):
        row = tuple(range(50, 66))
        self.check_ask(self.ready(0, HEAR, inbox=row), inbox=row[1:], total=50, at=10)

    def test_without_a_letter_the_user_hears_at_the_deeds_place(self):
        for far in FARS:
            for at, behind, skipped in WALKS:
                self.check_ask(self.ready(far, HEAR, at, inbox=()), state="hears", at=at)

    def test_the_letter_is_heard_at_the_next_step(self):
        for at, behind, skipped in WALKS:
            person = self.check_ask(self.ready(1, HEAR, at, inbox=()), state="hears", at=at)
            happen(person, STEP)
            happen(person, ("tick",))
            self.assertEqual((person.state, person.done), ("hears", 41))
            happen(person, ("key", 200))
            self.assertEqual((person.state, person.inbox, person.machine.at), ("ready", [200], at))
            happen(person, STEP)
            self.assertEqual((person.inbox, person.machine.total, person.machine.at), ([], 200, behind))
            self.assertEqual((person.state, person.done), ("ready", 42))


class RoomTest(AskChecks, unittest.TestCase):
    def test_it_skips_if_the_outbox_has_room(self):
        for far in FARS:
            for at, behind, skipped in WALKS:
                for count in (0, 1, 15):
                    self.check_ask(self.ready(far, ROOM, at, outbox=(8,) * count), at=skipped)
                self.check_ask(self.ready(far, ROOM, at, outbox=(8,) * 16), at=behind)

    def test_the_inbox_is_not_asked(self):
        self.check_ask(self.ready(0, ROOM, inbox=(8,) * 16), at=11)
        self.check_ask(self.ready(0, ROOM, inbox=(), outbox=(8,) * 16), at=10)


class SayTest(AskChecks, unittest.TestCase):
    def test_what_is_left_of_the_total_by_256(self):
        for far in FARS:
            for total, letter in ((0, 0), (1, 1), (255, 255), (256, 0), (257, 1), (512, 0), (1023, 255)):
                for at, behind, skipped in WALKS:
                    ahead = self.ready(far, SAY, at, total=total)
                    self.check_ask(ahead, outbox=(0, 2, 254, letter), at=behind)

    def test_with_0_14_and_15_letters(self):
        for count in (0, 14, 15):
            row = tuple(range(count))
            self.check_ask(self.ready(0, SAY, total=300, outbox=row), outbox=row + (44,), at=10)

    def test_with_16_letters_the_user_says_at_the_deeds_place(self):
        row = tuple(range(16))
        for far in FARS:
            for at, behind, skipped in WALKS:
                self.check_ask(self.ready(far, SAY, at, outbox=row), state="says", at=at)

    def test_the_letter_is_said_at_the_next_step(self):
        row = list(range(16))
        for at, behind, skipped in WALKS:
            ahead = self.ready(0, SAY, at, outbox=tuple(row), total=300, paper=())
            person = self.check_ask(ahead, state="says", at=at)
            happen(person, STEP)
            happen(person, ("key", 1))
            self.assertEqual((person.state, person.done), ("says", 41))
            happen(person, ("tick",))
            self.assertEqual((person.state, person.outbox, person.machine.at), ("ready", row[1:], at))
            happen(person, STEP)
            self.assertEqual((person.outbox, person.machine.total), (row[1:] + [44], 300))
            self.assertEqual((person.machine.at, person.done, person.paper), (behind, 42, [0]))


class SleepTest(AskChecks, unittest.TestCase):
    def test_a_total_of_0_does_nothing(self):
        for far in FARS:
            for at, behind, skipped in WALKS:
                self.check_ask(self.ready(far, SLEEP, at, total=0), at=behind)

    def test_the_nap_becomes_the_total(self):
        for far in FARS:
            for total in (1, 2, 512, 1023):
                for at, behind, skipped in WALKS:
                    ahead = self.ready(far, SLEEP, at, total=total)
                    self.check_ask(ahead, nap=total, total=0, state="sleeps", at=behind)

    def test_it_goes_on_behind_the_ask(self):
        ahead = self.ready(0, SLEEP, total=2, more={10: told(ADD, 0, 50), 50: 6})
        person = self.check_ask(ahead, nap=2, total=0, state="sleeps", at=10)
        for event in (STEP, ("tick",), STEP, ("tick",)):
            self.assertEqual((person.state, person.machine.at), ("sleeps", 10))
            happen(person, event)
        self.assertEqual((person.state, person.nap), ("ready", 0))
        happen(person, STEP)
        self.assertEqual((person.machine.total, person.machine.at, person.done), (6, 11, 42))


def wrapped(place):
    return [(place + number) % 64 for number in range(16)]


class BlockTest(AskChecks, unittest.TestCase):
    # Places whose 16 cells end ahead of 63, at 63, go over it, lie over the deed's cells at 9 and 10, and edges.
    PLACES = (0, 1, 2, 9, 10, 11, 20, 47, 48, 49, 58, 62, 63)

    def place_words(self, place):
        """Words that leave this place by 64."""
        return (place, 64 + place, 64 * 15 + place)

    def fetched(self, ahead, block, place):
        return changed_cells(ahead, dict(zip(wrapped(place), ahead[7][block])))

    def stored(self, ahead, block, place):
        blocks = list(ahead[7])
        blocks[block] = tuple(ahead[0][cell] for cell in wrapped(place))
        return tuple(blocks)

    def test_fetch(self):
        for far in FARS:
            for block in range(4):
                for place in self.PLACES:
                    for number in self.place_words(place):
                        ahead = self.ready(far, FETCH, total=block, more={10: number})
                        cells = self.fetched(ahead, block, place)
                        self.check_ask(ahead, cells=cells, total=0, at=11)

    def test_store(self):
        for far in FARS:
            for block in range(4):
                for place in self.PLACES:
                    for number in self.place_words(place):
                        ahead = self.ready(far, STORE, total=block, more={10: number})
                        blocks = self.stored(ahead, block, place)
                        self.check_ask(ahead, blocks=blocks, total=0, at=11)

    def test_a_fetch_and_a_store_by_hand(self):
        blocks = (tuple(range(500, 516)), (0,) * 16, (3,) * 16, tuple(range(900, 916)))
        ahead = full_user(cells={9: told(ASK, 0, FETCH), 10: 64 * 2 + 60}, total=3, blocks=blocks)
        cells = {60: 900, 61: 901, 62: 902, 63: 903, 9: 913, 10: 914, 11: 915}
        cells.update({place: 904 + place for place in range(9)})
        self.check_ask(ahead, cells=cells_with(cells), total=0, at=11)
        row = {9: told(ASK, 0, STORE), 10: 60, 62: 5, 0: 6, 11: 7, 12: 8}
        ahead = full_user(cells=row, total=0, blocks=blocks)
        stored = (0, 0, 5, 0, 6, 0, 0, 0, 0, 0, 0, 0, 0, told(ASK, 0, STORE), 60, 7)
        self.check_ask(ahead, blocks=(stored,) + blocks[1:], total=0, at=11)

    def test_totals_that_tell_no_block(self):
        for far in FARS:
            for ask in (FETCH, STORE):
                for total in (4, 5, 512, 1023):
                    for at, behind, skipped in WALKS:
                        self.check_ask(self.ready(far, ask, at, total=total), total=1023, at=skipped)

    def test_the_place_stands_behind_the_deed_also_at_the_end(self):
        for at, behind, skipped in WALKS:
            for block in (0, 3):
                ahead = self.ready(0, FETCH, at, total=block, more={behind: 64 * 5 + 30})
                self.check_ask(ahead, cells=self.fetched(ahead, block, 30), total=0, at=skipped)
                ahead = self.ready(1, STORE, at, total=block, more={behind: 64 * 5 + 30})
                self.check_ask(ahead, blocks=self.stored(ahead, block, 30), total=0, at=skipped)

    def test_a_fetch_over_its_own_cells_goes_on_with_what_was_fetched(self):
        blocks = (tuple([told(ADD, 0, 2)] * 16),) + ((0,) * 16,) * 3
        ahead = full_user(cells={9: told(ASK, 0, FETCH), 10: 0}, total=0, blocks=blocks)
        person = self.check_ask(ahead, cells=[told(ADD, 0, 2)] * 16 + [0] * 48, total=0, at=11)
        happen(person, STEP)
        self.assertEqual((person.machine.total, person.machine.at), (told(ADD, 0, 2), 12))

    def test_cells_and_block_are_apart_behind_it(self):
        for ask in (FETCH, STORE):
            person = self.check_block(ask)
            cells = list(person.machine.cells)
            blocks = [list(block) for block in person.blocks]
            person.blocks[1][0] = 1000
            self.assertEqual(person.machine.cells, cells)
            person.blocks[1][0] = blocks[1][0]
            person.machine.cells[20] = 1000
            self.assertEqual(person.blocks, blocks)

    def check_block(self, ask):
        ahead = self.ready(0, ask, total=1, more={10: 20})
        if ask == FETCH:
            return self.check_ask(ahead, cells=self.fetched(ahead, 1, 20), total=0, at=11)
        return self.check_ask(ahead, blocks=self.stored(ahead, 1, 20), total=0, at=11)

    def test_a_block_that_was_stored_is_fetched_again(self):
        cells = {9: told(ASK, 0, STORE), 10: 55, 11: told(ASK, 0, FETCH), 12: 30}
        cells.update({place: 700 + place for place in range(55, 64)})
        person = self.check_ask(
            full_user(cells=cells, total=0),
            blocks=self.stored(full_user(cells=cells), 0, 55),
            total=0,
            at=11,
        )
        ahead = picture(person)
        happen(person, STEP)
        self.assertEqual(person.machine.cells[30:46], [ahead[0][cell] for cell in wrapped(55)])
        self.assertEqual(person.machine.cells[46:], list(ahead[0][46:]))


class StopTest(AskChecks, unittest.TestCase):
    def test_the_user_is_stopped(self):
        for far in FARS:
            for at, behind, skipped in WALKS:
                self.check_ask(self.ready(far, STOP, at), state="stopped", at=behind)

    def test_a_start_behind_it(self):
        person = self.check_ask(self.ready(0, STOP, more={40: told(ADD, 0, 50), 50: 6}), state="stopped", at=10)
        stopped = picture(person)
        happen(person, STEP)
        self.assertEqual(picture(person), stopped)
        happen(person, ("start", 40))
        self.assertEqual((person.state, person.machine.at), ("ready", 40))
        self.assertEqual(picture(person)[:3] + picture(person)[4:9], stopped[:3] + stopped[4:9])
        happen(person, STEP)
        self.assertEqual((person.machine.total, person.machine.at, person.done), (83, 41, 42))


class LookTest(AskChecks, unittest.TestCase):
    def test_the_total_becomes_the_switches(self):
        for far in FARS:
            for at, behind, skipped in WALKS:
                for switches in (0, 1, 512, 1023):
                    self.check_ask(self.ready(far, LOOK, at, switches=switches), total=switches, at=behind)


class OtherAsksTest(AskChecks, unittest.TestCase):
    def test_all_others_do_nothing(self):
        for far in FARS:
            for place in range(9, 64):
                for total in (0, 3, 1023):
                    self.check_ask(self.ready(far, place, total=total), at=10)
                for inbox, outbox in (((), ()), ((1,), (2,) * 16)):
                    self.check_ask(self.ready(far, place, inbox=inbox, outbox=outbox), at=10)

    def test_9_and_63_at_the_ends(self):
        for far in FARS:
            for place in (9, 63):
                for at, behind, skipped in WALKS:
                    self.check_ask(self.ready(far, place, at), at=behind)


if __name__ == "__main__":
    unittest.main()
