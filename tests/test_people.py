import unittest

from corehouse.machine import Machine
from corehouse.people import Person, alone, happen, person_of, picture
from helpers import (
    ADD,
    ASK,
    FETCH,
    FIELDS,
    GO,
    HEAR,
    NOTHING,
    PUT,
    RISE,
    SAY,
    SLEEP,
    STATES,
    STOP,
    STORE,
    UserChecks,
    cells_with,
    full_user,
    picture_with,
    told,
)

# One for each state, with values in every field that no event but its own would touch.
USERS = {name: full_user(state=name) for name in STATES}


class NewUserTest(UserChecks, unittest.TestCase):
    def test_all_fields_at_first(self):
        person = Person([0] * 64, 0)
        self.assertIsInstance(person.machine, Machine)
        machine = person.machine
        self.assertEqual((machine.cells, machine.total, machine.mark, machine.at), ([0] * 64, 0, 0, 0))
        self.assertEqual((person.inbox, person.outbox, person.paper), ([], [], []))
        self.assertEqual(person.blocks, [[0] * 16, [0] * 16, [0] * 16, [0] * 16])
        self.assertEqual(person.switches, 0)
        self.assertEqual(person.state, "stopped")
        self.assertEqual((person.nap, person.lost, person.done), (0, 0, 0))
        self.check_user_kinds(person)

    def test_cells_and_switches_are_what_was_handed_in(self):
        row = list(range(100, 164))
        for switches in (0, 1, 512, 1023):
            for cells in (row, tuple(row)):
                person = Person(cells, switches)
                self.assertEqual(picture(person), picture_with(cells=row, switches=switches))
                self.check_user_kinds(person)

    def test_arguments_bear_their_names(self):
        person = Person(cells=[5] * 64, switches=9)
        self.assertEqual(picture(person), picture_with(cells=[5] * 64, switches=9))

    def test_cells_are_copied(self):
        row = [told(RISE, 0, 40)] * 64
        person = Person(row, 0)
        row[3] = 1
        self.assertEqual(person.machine.cells[3], told(RISE, 0, 40))
        happen(person, ("start", 0))
        happen(person, ("step",))
        self.assertEqual(row[40], told(RISE, 0, 40))

    def test_users_and_blocks_are_apart(self):
        row = [0] * 64
        first = Person(row, 0)
        second = Person(row, 0)
        first.inbox.append(1)
        first.outbox.append(2)
        first.paper.append(3)
        first.blocks[0][0] = 4
        first.machine.cells[0] = 5
        self.assertEqual(picture(second), picture_with())
        self.assertEqual(first.blocks[1:], [[0] * 16] * 3)


class PictureTest(UserChecks, unittest.TestCase):
    def test_each_value_stands_in_its_place(self):
        person = Person(range(64), 7)
        person.machine = Machine(list(range(64)), 1, 0, 3)
        person.inbox = [10, 11]
        person.outbox = [12]
        person.paper = [13, 14, 15]
        person.blocks = [[20] * 16, [21] * 16, [22] * 16, [23] * 16]
        person.state = "sleeps"
        person.nap = 30
        person.lost = 31
        person.done = 32
        self.assertEqual(
            picture(person),
            (
                tuple(range(64)), 1, 0, 3, (10, 11), (12,), (13, 14, 15),
                ((20,) * 16, (21,) * 16, (22,) * 16, (23,) * 16), 7, "sleeps", 30, 31, 32,
            ),
        )  # fmt: skip
        self.check_user_kinds(person)

    def test_a_picture_stays_when_the_user_changes(self):
        person = person_of(full_user())
        ahead = picture(person)
        for row in [person.inbox, person.outbox, person.paper, person.machine.cells] + person.blocks:
            row[0] = 200
        person.machine.total = 5
        self.assertEqual(ahead, full_user())
        self.assertNotEqual(picture(person), ahead)

    def test_to_look_changes_nothing(self):
        person = person_of(full_user())
        self.assertEqual(picture(person), picture(person))


class PersonOfTest(UserChecks, unittest.TestCase):
    def edges(self):
        low = dict(total=0, mark=0, at=0, switches=0, nap=0, lost=0, done=0)
        high = dict(total=1023, mark=1, at=63, switches=1023, nap=1023, lost=10000, done=100000)
        for name in STATES:
            yield picture_with(state=name, **low)
            yield picture_with(
                cells=[1023] * 64,
                inbox=tuple(range(16)),
                outbox=tuple(range(240, 256)),
                paper=tuple(range(256)) * 4,
                blocks=((1023,) * 16,) * 4,
                state=name,
                **high,
            )
            yield full_user(state=name)

    def test_the_picture_is_the_told_one_again(self):
        for ahead in self.edges():
            person = person_of(ahead)
            self.assertIsInstance(person, Person)
            self.assertEqual(picture(person), ahead)
            self.check_user_kinds(person)

    def test_the_argument_bears_its_name(self):
        self.assertEqual(picture(person_of(told=full_user())), full_user())

    def test_two_users_of_one_picture_are_apart(self):
        ahead = full_user()
        first = person_of(ahead)
        second = person_of(picture(first))
        for row in [first.inbox, first.outbox, first.paper, first.machine.cells] + first.blocks:
            row.append(9)
            row[0] = 200
        first.state = "stopped"
        first.machine.at = 0
        self.assertEqual(picture(second), ahead)
        self.assertEqual(ahead, full_user())

    def test_both_go_on_alike(self):
        program = cells_with({0: told(ASK, 0, SAY), 1: NOTHING + 4, 2: told(GO, 0, 0)})
        events = [("start", 0)] + [("step",)] * 70 + [("key", 5), ("tick",)]
        for count in range(len(events)):
            first = alone(program, 0, events[:count])
            ahead = picture(first)
            second = person_of(ahead)
            for event in events[count:]:
                happen(first, event)
            self.assertEqual(picture(second), ahead)
            for event in events[count:]:
                happen(second, event)
            self.assertEqual(picture(first), picture(second))


class StartTest(UserChecks, unittest.TestCase):
    def test_a_stopped_user_becomes_ready_at_the_place(self):
        for place in (0, 1, 31, 62, 63):
            self.check_event(USERS["stopped"], ("start", place), state="ready", at=place)
            self.check_event(picture_with(), ("start", place), state="ready", at=place)

    def test_nothing_happens_to_others(self):
        for name in STATES[1:]:
            for place in (0, 9, 63):
                self.check_event(USERS[name], ("start", place))


class KeyTest(UserChecks, unittest.TestCase):
    BEHIND = {"stopped": "stopped", "ready": "ready", "hears": "ready", "says": "says", "sleeps": "sleeps"}

    def test_the_letter_comes_to_the_end_in_each_state(self):
        for name in STATES:
            for letter in (0, 1, 65, 254, 255):
                self.check_event(USERS[name], ("key", letter), inbox=(1, 255, letter), state=self.BEHIND[name])

    def test_an_empty_inbox(self):
        for name in STATES:
            self.check_event(full_user(state=name, inbox=()), ("key", 7), inbox=(7,), state=self.BEHIND[name])

    def test_15_16_and_17_letters(self):
        for name in STATES:
            row = tuple(range(100, 114))
            person = person_of(full_user(state=name, inbox=row, lost=0))
            for letter, lost in ((20, 0), (21, 0), (22, 1), (23, 2)):
                happen(person, ("key", letter))
                row = row + (letter,) if lost == 0 else row
                expected = full_user(state=self.BEHIND[name], inbox=row, lost=lost)
                self.assertEqual(picture(person), expected)
            self.assertEqual(len(person.inbox), 16)

    def test_a_lost_letter(self):
        row = tuple(range(16))
        for name in STATES:
            self.check_event(full_user(state=name, inbox=row), ("key", 7), lost=4, state=self.BEHIND[name])

    def test_a_letter_has_room_again_when_one_was_heard(self):
        cells = {0: told(ASK, 0, HEAR)}
        ahead = picture_with(cells=cells, inbox=tuple(range(16)), state="ready")
        person = self.check_event(ahead, ("step",), inbox=tuple(range(1, 16)), at=1, done=1, total=0)
        happen(person, ("key", 200))
        happen(person, ("key", 201))
        self.assertEqual((person.inbox, person.lost), (list(range(1, 16)) + [200], 1))


class TickTest(UserChecks, unittest.TestCase):
    def test_an_empty_outbox(self):
        for name in ("stopped", "ready", "hears", "says"):
            self.check_event(full_user(state=name, outbox=()), ("tick",))

    def test_the_first_letter_is_printed_in_each_state(self):
        for name, behind in (("stopped", "stopped"), ("ready", "ready"), ("hears", "hears"), ("says", "ready")):
            self.check_event(USERS[name], ("tick",), outbox=(2, 254), paper=(65, 66, 0), state=behind)

    def test_one_letter_and_16_letters(self):
        for name, behind in (("ready", "ready"), ("says", "ready")):
            one = full_user(state=name, outbox=(9,), paper=())
            self.check_event(one, ("tick",), outbox=(), paper=(9,), state=behind)
            row = tuple(range(16))
            many = full_user(state=name, outbox=row)
            self.check_event(many, ("tick",), outbox=row[1:], paper=(65, 66, 0), state=behind)

    def test_letters_are_printed_in_order_one_a_tick(self):
        person = person_of(picture_with(outbox=(5, 6, 7)))
        for paper, outbox in (([5], [6, 7]), ([5, 6], [7]), ([5, 6, 7], []), ([5, 6, 7], [])):
            happen(person, ("tick",))
            self.assertEqual((person.paper, person.outbox), (paper, outbox))

    def test_a_paper_has_no_end(self):
        person = person_of(picture_with(paper=tuple(range(256)) * 4, outbox=(9,)))
        happen(person, ("tick",))
        self.assertEqual(person.paper, list(range(256)) * 4 + [9])

    def test_a_user_that_sleeps(self):
        for nap, behind in ((1, "ready"), (2, "sleeps"), (3, "sleeps"), (1023, "sleeps")):
            quiet = full_user(state="sleeps", outbox=(), nap=nap)
            self.check_event(quiet, ("tick",), nap=nap - 1, state=behind)
            talking = full_user(state="sleeps", nap=nap)
            self.check_event(talking, ("tick",), nap=nap - 1, state=behind, outbox=(2, 254), paper=(65, 66, 0))

    def test_a_nap_of_2_ends_with_the_second_tick(self):
        person = person_of(picture_with(state="sleeps", nap=2))
        happen(person, ("tick",))
        self.assertEqual((person.state, person.nap), ("sleeps", 1))
        happen(person, ("tick",))
        self.assertEqual((person.state, person.nap), ("ready", 0))
        happen(person, ("tick",))
        self.assertEqual((person.state, person.nap), ("ready", 0))

    def test_the_nap_of_others_stays(self):
        for name in ("stopped", "ready", "hears", "says"):
            for nap in (0, 1, 2):
                self.check_event(full_user(state=name, nap=nap, outbox=()), ("tick",))


class StepTest(UserChecks, unittest.TestCase):
    def test_a_ready_user_does_the_deed_of_its_machine(self):
        ahead = full_user(cells={9: told(ADD, 0, 20), 20: 400})
        self.check_event(ahead, ("step",), total=477, at=10, done=41)
        ahead = full_user(cells={9: told(PUT, 1, 8), 8: 30})
        cells = cells_with({9: told(PUT, 1, 8), 8: 31, 31: 77})
        self.check_event(ahead, ("step",), cells=cells, total=0, at=10, done=41)
        ahead = full_user(cells={63: NOTHING + 8}, at=63)
        self.check_event(ahead, ("step",), mark=0, at=0, done=41)

    def test_nothing_happens_to_others(self):
        for name in ("stopped", "hears", "says", "sleeps"):
            self.check_event(USERS[name], ("step",))
            self.check_event(full_user(state=name, cells={9: told(ASK, 0, HEAR)}), ("step",))

    def test_done_counts_a_step_from_which_on_the_user_waits(self):
        ready = dict(state="ready", at=9, done=40)
        hears = picture_with(cells={9: told(ASK, 0, HEAR)}, **ready)
        self.check_event(hears, ("step",), state="hears", done=41)
        says = picture_with(cells={9: told(ASK, 0, SAY)}, outbox=(1,) * 16, **ready)
        self.check_event(says, ("step",), state="says", done=41)
        sleeps = picture_with(cells={9: told(ASK, 0, SLEEP)}, total=5, **ready)
        self.check_event(sleeps, ("step",), state="sleeps", done=41, total=0, nap=5, at=10)
        stopped = picture_with(cells={9: told(ASK, 0, STOP)}, **ready)
        self.check_event(stopped, ("step",), state="stopped", done=41, at=10)

    def test_done_does_not_count_the_steps_of_one_that_waits(self):
        cells = cells_with({0: told(ASK, 0, HEAR), 1: told(ASK, 0, STOP)})
        step = ("step",)
        events = [step, step, ("start", 0), step, step, step, ("key", 9), step, step, step, step]
        counts = []
        person = alone(cells, 0, [])
        for event in events:
            happen(person, event)
            counts.append(person.done)
        self.assertEqual(counts, [0, 0, 0, 1, 1, 1, 1, 2, 3, 3, 3])


class AloneTest(UserChecks, unittest.TestCase):
    CELLS = cells_with(
        {
            0: told(ASK, 0, HEAR),
            1: told(ASK, 0, SAY),
            2: told(PUT, 0, 50),
            3: told(ASK, 1, STORE),
            4: 50,
            5: told(ADD, 0, 60),
            6: told(ASK, 0, SLEEP),
            7: told(ASK, 1, FETCH),
            8: 20,
            9: told(GO, 0, 0),
            60: 2,
        }
    )
    EVENTS = (
        [("step",), ("tick",), ("key", 200), ("start", 0), ("start", 5)]
        + [("step",)] * 3
        + [("key", 7), ("tick",)]
        + [("step",)] * 5
        + [("tick",), ("step",), ("tick",)] * 4
        + [("key", 8), ("key", 9)]
        + [("step",), ("tick",)] * 40
    )

    def test_as_the_events_one_by_one(self):
        for count in range(len(self.EVENTS) + 1):
            person = Person(self.CELLS, 33)
            for event in self.EVENTS[:count]:
                happen(person, event)
            at_once = alone(self.CELLS, 33, self.EVENTS[:count])
            self.assertIsInstance(at_once, Person)
            self.assertEqual(picture(at_once), picture(person))

    def test_the_events_did_happen(self):
        person = alone(self.CELLS, 33, self.EVENTS)
        values = dict(zip(FIELDS, picture(person)))
        self.assertEqual((values["paper"], values["inbox"], values["outbox"]), ((200, 7, 8, 9), (), ()))
        self.assertEqual((values["state"], values["at"], values["done"]), ("hears", 0, 33))
        self.assertEqual((values["blocks"][0][0], values["cells"][20], values["switches"]), (9, 9, 33))

    def test_no_events(self):
        self.assertEqual(picture(alone([3] * 64, 5, [])), picture_with(cells=[3] * 64, switches=5))

    def test_arguments_bear_their_names(self):
        person = alone(cells=[3] * 64, switches=5, events=[("start", 8)])
        self.assertEqual(picture(person), picture_with(cells=[3] * 64, switches=5, state="ready", at=8))

    def test_the_lists_that_are_handed_in_stay(self):
        cells = list(self.CELLS)
        events = list(self.EVENTS)
        person = alone(cells, 33, events)
        self.assertEqual((cells, events), (self.CELLS, self.EVENTS))
        ahead = picture(person)
        cells[0] = 1
        events.clear()
        self.assertEqual(picture(person), ahead)


if __name__ == "__main__":
    unittest.main()
