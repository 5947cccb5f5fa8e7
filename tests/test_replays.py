import inspect
import unittest

from buildhall import replays
from buildhall.errors import BadBook, BadTerm
from buildhall.halls import Hall
from buildhall.plans import plan_of
from buildhall.replays import go_on, replay
from buildhall.shots import hall_of, shot
from tests.helper import NO_TEXTS, NO_WHOLES, Draw, refused, shown
from tests.model import Model, all_told, drawn_hall, led, same, twin

PLAN = plan_of(["job a tries 3 wait 4", "job b needs a", "job c", "job d needs c", "job e rank 1 tries 2"])
TERM = 6


def told_book():
    """A book in which each kind of entry stands."""
    hall = Hall(PLAN, TERM)
    hall.ask("ann")
    hall.ask("bob")
    hall.pass_on(2)
    hall.renew(0)
    hall.fail(0, "slip")
    hall.ask("ann")
    hall.ask("cy")
    hall.fail(3, "rain")
    hall.pass_on(8)
    hall.ask("ed")
    hall.again("ed")
    hall.pass_on(4)
    hall.ask("ed")
    hall.done(5)
    hall.ask("bob")
    hall.pass_on(1)
    hall.done(6)
    return hall


BOOK = told_book().entries()


class Interface(unittest.TestCase):
    def test_arguments(self):
        self.assertEqual(list(inspect.signature(replays.replay).parameters), ["plan", "term", "entries"])
        self.assertEqual(list(inspect.signature(replays.go_on).parameters), ["hall", "entries"])


class Point53Books(unittest.TestCase):
    def test_a_told_book(self):
        self.assertEqual(BOOK, [
            ("lease", 0, 4, "ann", 6), ("lease", 1, 0, "bob", 6), ("turn", 2), ("renew", 0, 8), ("fail", 0, "slip"),
            ("ready", 4), ("lease", 2, 4, "ann", 8), ("lease", 3, 2, "cy", 8), ("fail", 3, "rain"), ("break", 2),
            ("cut", 3, 2), ("turn", 6), ("out", 1), ("rest", 0, 10), ("turn", 8), ("out", 2), ("break", 4),
            ("turn", 10), ("ready", 0), ("lease", 4, 0, "ed", 16), ("fail", 4, "fell"), ("rest", 0, 14), ("turn", 14),
            ("ready", 0), ("lease", 5, 0, "ed", 20), ("done", 5), ("ready", 1), ("lease", 6, 1, "bob", 20), ("turn", 15),
            ("done", 6),
        ])
        self.assertEqual(
            {entry[0] for entry in BOOK},
            {"turn", "lease", "renew", "done", "fail", "out", "ready", "rest", "break", "cut"},
        )

    def test_leads_a_new_hall(self):
        hall = replay(PLAN, TERM, BOOK)
        self.assertIs(type(hall), Hall)
        self.assertIs(hall.plan, PLAN)
        self.assertEqual(all_told(hall), all_told(told_book()))

    def test_an_empty_book(self):
        self.assertEqual(all_told(replay(PLAN, TERM, [])), all_told(Hall(PLAN, TERM)))
        hall = told_book()
        before = all_told(hall)
        self.assertIsNone(go_on(hall, []))
        self.assertEqual(all_told(hall), before)

    def bad(self, place, entries, hall=None):
        hall = Hall(PLAN, TERM) if hall is None else hall
        before = all_told(hall)
        if before == all_told(Hall(PLAN, TERM)):
            error = refused(self, BadBook, replay, PLAN, TERM, entries)
            self.assertEqual(error.place, place, shown(entries))
        error = refused(self, BadBook, go_on, hall, entries)
        self.assertEqual(error.place, place, shown(entries))
        self.assertIs(type(error.place), int)
        self.assertEqual(all_told(hall), before)

    def test_what_is_no_list(self):
        for thing in NO_TEXTS[:8] + ("", "turn 1", (), tuple(BOOK), {}, {0: ("turn", 1)}, {("turn", 1)}, object(), len):
            self.bad(0, thing)

    def test_bad_term_goes_ahead(self):
        for term in NO_WHOLES + (0, 1, 1001, -1, 10 ** 5000):
            for entries in ([], BOOK, None, "x", [None], [("out", 0)], ()):
                refused(self, BadTerm, replay, PLAN, term, entries)

    def test_another_term(self):
        self.assertEqual(refused(self, BadBook, replay, PLAN, 7, BOOK).place, 0)
        self.assertEqual(refused(self, BadBook, replay, PLAN, 1000, BOOK).place, 0)

    def test_what_is_no_entry_at_any_place(self):
        for place in range(len(BOOK)):
            for thing in (None, 7, True, "", "turn 2", (), [], list(BOOK[place]), ("turn",), BOOK[place] + (0,), {}, [[]]):
                self.bad(place, BOOK[:place] + [thing] + BOOK[place + 1:])
                self.bad(place, BOOK[:place] + [thing, thing])
        for thing in NO_TEXTS:
            self.bad(0, [thing])
            self.bad(1, [BOOK[0], thing])

    def test_truths_in_the_place_of_numbers(self):
        self.bad(0, [("turn", True)])
        self.bad(0, [("lease", False, 4, "ann", 6)])
        good = [("lease", 0, 0, "ann", 6), ("turn", 1), ("done", 0), ("ready", 1)]
        plan = plan_of(["job a", "job b needs a"])
        self.assertEqual(replay(plan, 6, good).entries(), good)
        for place, entry in (
            (0, ("lease", False, 0, "ann", 6)), (0, ("lease", 0, False, "ann", 6)), (1, ("turn", True)),
            (2, ("done", False)), (3, ("ready", True)), (3, ("ready", 1.0)), (3, ["ready", 1]),
        ):
            error = refused(self, BadBook, replay, plan, 6, good[:place] + [entry] + good[place + 1:])
            self.assertEqual(error.place, place)

    def test_leases(self):
        for entry in (
            ("lease", 1, 4, "ann", 6), ("lease", 0, 0, "ann", 6), ("lease", 0, 4, "ann", 7), ("lease", 0, 4, "ann", 5),
            ("lease", 0, 99, "ann", 6), ("lease", 0, 4, "Ann", 6), ("lease", 1000100000, 4, "ann", 6),
        ):
            self.bad(0, [entry])
        first = ("lease", 0, 4, "ann", 6)
        self.bad(1, [first, ("lease", 1, 0, "ann", 6)])
        self.bad(1, [first, first])
        plan = plan_of(["job a"])
        error = refused(self, BadBook, replay, plan, 6, [("lease", 0, 0, "ann", 6), ("lease", 1, 0, "bob", 6)])
        self.assertEqual(error.place, 1)

    def test_renew_done_and_fail(self):
        first = ("lease", 0, 4, "ann", 6)
        for entry in (("renew", 0, 6), ("done", 0), ("fail", 0, "slip")):
            self.bad(0, [entry])
            self.bad(1, [first, (entry[0], 1) + entry[2:]])
        self.bad(1, [first, ("renew", 0, 7)])
        self.bad(2, [first, ("turn", 2), ("renew", 0, 6)])
        self.bad(2, [first, ("done", 0), ("done", 0)])
        self.bad(2, [first, ("done", 0), ("renew", 0, 6)])
        self.bad(2, [first, ("done", 0), ("fail", 0, "slip")])
        self.bad(3, [first, ("fail", 0, "slip"), ("ready", 4), ("done", 0)])

    def test_what_only_a_deed_writes(self):
        first = ("lease", 0, 4, "ann", 6)
        for entry in (
            ("out", 0), ("ready", 4), ("ready", 0), ("ready", 1), ("rest", 4, 6), ("rest", 4, 0), ("break", 4), ("cut", 1, 0),
        ):
            self.bad(0, [entry])
            self.bad(1, [first, entry])
            self.bad(2, [first, ("turn", 3), entry])
        self.bad(3, [first, ("fail", 0, "slip"), ("ready", 4), ("ready", 4)])
        self.bad(3, [("lease", 0, 4, "ann", 6), ("turn", 6), ("out", 0), ("out", 0)])

    def test_where_the_deed_writes_another_one(self):
        first = ("lease", 0, 4, "ann", 6)
        for entry in (("rest", 4, 6), ("break", 4), ("ready", 0), ("turn", 1), ("lease", 1, 4, "ann", 6), ("done", 0)):
            self.bad(2, [first, ("fail", 0, "slip"), entry])
        cuts = [
            ("lease", 0, 4, "ann", 6), ("lease", 1, 0, "bob", 6), ("lease", 2, 2, "cy", 6), ("fail", 2, "rain"),
            ("break", 2), ("cut", 3, 2),
        ]
        self.assertEqual(replay(PLAN, TERM, cuts).entries(), cuts)
        self.bad(4, cuts[:4] + [("rest", 2, 9)])
        self.bad(4, cuts[:4] + [("ready", 2)])
        for entry in (("cut", 3, 1), ("cut", 1, 2), ("cut", 4, 2), ("turn", 1), ("break", 2), ("renew", 0, 6)):
            self.bad(5, cuts[:5] + [entry])
        self.bad(6, cuts + [("cut", 3, 2)])
        self.bad(6, cuts + [("cut", 1, 0)])

    def test_turns(self):
        first = ("lease", 0, 4, "ann", 6)
        self.bad(0, [("turn", 0)])
        self.bad(1, [("turn", 3), ("turn", 3)])
        self.bad(1, [("turn", 3), ("turn", 2)])
        self.bad(0, [("turn", 1000000001)])
        self.bad(1, [first, ("turn", 7)])
        self.bad(1, [first, ("turn", 1000000000)])
        self.bad(2, [first, ("turn", 6), ("ready", 4)])
        self.bad(2, [first, ("turn", 6), ("turn", 7)])
        self.bad(2, [first, ("turn", 5), ("out", 0)])
        self.bad(3, [first, ("turn", 5), ("turn", 6), ("renew", 0, 12)])
        for last in (1, 5, 6):
            self.assertEqual(replay(PLAN, TERM, [first, ("turn", last)]).turn, last)
        self.assertEqual(replay(PLAN, TERM, [("turn", 1000000000)]).turn, 1000000000)
        # Just at an alarm the turn may stand, with all that rings there behind it.
        self.assertEqual(
            replay(PLAN, TERM, [first, ("turn", 6)]).entries(), [first, ("turn", 6), ("out", 0), ("ready", 4)]
        )

    def test_two_alarms_at_one_turn(self):
        book = [("lease", 0, 4, "ann", 6), ("lease", 1, 0, "bob", 6), ("turn", 6), ("out", 0), ("ready", 4), ("out", 1)]
        self.assertEqual(replay(PLAN, TERM, book).entries(), book + [("rest", 0, 10)])
        self.bad(3, book[:3] + [("out", 1), ("rest", 0, 10)])
        self.bad(5, book[:5] + [("turn", 7)])
        self.bad(7, book + [("rest", 0, 10), ("turn", 11)])
        self.assertEqual(replay(PLAN, TERM, book + [("rest", 0, 10), ("turn", 10)]).entries()[-1], ("ready", 0))

    def test_each_entry_left_out_put_twice_or_changed(self):
        for place in range(len(BOOK)):
            for entries in (
                BOOK[:place] + BOOK[place + 1:], BOOK[:place] + [BOOK[place]] + BOOK[place:],
                BOOK[:place] + [BOOK[place][:-1] + ("other",)] + BOOK[place + 1:],
            ):
                due = led(Model(PLAN.jobs, TERM), entries)
                if due is None:
                    self.assertEqual(replay(PLAN, TERM, entries).entries()[:len(entries)], entries)
                else:
                    self.bad(due, entries)

    def test_further_entries_go_behind_the_book(self):
        for place in range(len(BOOK)):
            hall = replay(PLAN, TERM, BOOK[:place])
            done = len(hall.entries())
            self.assertIsNone(go_on(hall, BOOK[done:]))
            self.assertEqual(hall.entries(), BOOK)
            self.bad(len(BOOK) - done, BOOK[done:] + [("turn", 0)], replay(PLAN, TERM, BOOK[:place]))

    def test_places_are_counted_in_the_entries(self):
        hall = told_book()
        self.bad(0, [("turn", 0)], hall)
        self.bad(1, [("turn", hall.turn + 1), ("out", 0)], hall)
        self.bad(0, BOOK, hall)

    def test_refused_go_on_keeps_all_and_is_taken_when_made_good(self):
        hall = replay(PLAN, TERM, BOOK[:4])
        rest = BOOK[4:]
        fields = (hall.leases, hall.alarms, hall.readies, hall.book, hall.stands)
        entries = rest + [("break", 0)]
        self.bad(len(rest), entries, hall)
        self.assertEqual(entries, rest + [("break", 0)])
        entries.pop()
        go_on(hall, entries)
        self.assertEqual(all_told(hall), all_told(told_book()))
        for before, now in zip(fields, (hall.leases, hall.alarms, hall.readies, hall.book, hall.stands)):
            self.assertIs(before, now)

    def test_a_book_led_by_itself(self):
        hall = Hall(plan_of(["job a"]), 5)
        hall.pass_on(3)
        self.assertEqual(refused(self, BadBook, go_on, hall, hall.book).place, 0)
        self.assertEqual(hall.entries(), [("turn", 3)])

    def test_a_book_that_grows_while_it_leads(self):
        hall = hall_of(plan_of(["job a"]), ["hall 5 2 1", "job 0 leased 0 0", "lease 0 0 ann 1 6", "end 3"])
        hall.renew(0)
        go_on(hall, hall.book)
        self.assertEqual(hall.entries(), [("renew", 0, 7), ("renew", 0, 7)])


class DrawnBooks(unittest.TestCase):
    def test_cut_off_at_every_place(self):
        """Point 54."""
        for seed in range(24):
            hall, model = drawn_hall(seed, 1 + seed % 12, 70, rank=2, tries=4, wait=4, grow=3)
            book = hall.entries()
            for place in range(len(book) + 1):
                again = replay(hall.plan, hall.leases.term, book[:place])
                begun = again.entries()
                self.assertEqual(begun[:place], book[:place])
                self.assertEqual(begun, book[:len(begun)])
                go_on(again, book[len(begun):])
                same(self, again, model)
                self.assertEqual(shot(again), shot(hall))

    def test_from_a_shot(self):
        for seed in range(40):
            for deeds in (0, 10, 30, 69):
                early, model = drawn_hall(seed, 1 + seed % 12, deeds, rank=2, tries=4, wait=4, grow=3)
                late, model = drawn_hall(seed, 1 + seed % 12, 70, rank=2, tries=4, wait=4, grow=3)
                behind = late.entries()[len(early.entries()):]
                again = hall_of(early.plan, shot(early))
                go_on(again, behind)
                self.assertEqual(shot(again), shot(late))
                self.assertEqual(again.entries(), behind)
                for place in range(len(behind)):
                    part = hall_of(early.plan, shot(early))
                    go_on(part, behind[:place])
                    go_on(part, behind[len(part.entries()):])
                    self.assertEqual(shot(part), shot(late))

    def test_drawn_bends_against_the_model(self):
        draw = Draw(53)
        stood = 0
        for seed in range(80):
            hall, model = drawn_hall(seed, 2 + seed % 9, 40, rank=2, tries=4, wait=4, grow=3)
            jobs = model.jobs
            for bend in range(40):
                entries = self.bend(draw, hall.entries())
                other = Model(jobs, model.term)
                place = led(other, entries)
                if place is None:
                    same(self, replay(hall.plan, model.term, entries), other)
                    stood += 1
                else:
                    error = refused(self, BadBook, replay, hall.plan, model.term, entries)
                    self.assertEqual(error.place, place, entries)
        self.assertGreater(stood, 20)

    def bend(self, draw, entries):
        place = draw.below(len(entries))
        deed = draw.below(5)
        if deed == 0:
            entries.pop(place)
        elif deed == 1:
            entries.insert(place, draw.pick(entries))
        elif deed == 2:
            other = draw.below(len(entries))
            entries[place], entries[other] = entries[other], entries[place]
        else:
            entry = entries[place]
            at = draw.below(len(entry))
            part = entry[at]
            if type(part) is int:
                part = draw.pick([part + 1, part - 1, part + 5, 0, True, str(part)])
            else:
                part = draw.pick(["ann", "bob", "slip", "turn", "done", "out", "ready", None])
            entries[place] = entry[:at] + (part,) + entry[at + 1:]
        return entries

    def test_go_on_refused_leaves_a_drawn_hall(self):
        draw = Draw(54)
        for seed in range(60):
            hall, model = drawn_hall(seed, 2 + seed % 9, 30, rank=2, tries=4, wait=4, grow=3)
            late, late_model = drawn_hall(seed, 2 + seed % 9, 60, rank=2, tries=4, wait=4, grow=3)
            behind = late.entries()[len(hall.entries()):]
            if not behind:
                continue
            entries = self.bend(draw, list(behind))
            other = twin(model)
            place = led(other, entries)
            if place is None:
                go_on(hall, entries)
                same(self, hall, other)
            else:
                before = all_told(hall)
                self.assertEqual(refused(self, BadBook, go_on, hall, entries).place, place)
                self.assertEqual(all_told(hall), before)
                same(self, hall, model)


class Point14HandedIn(unittest.TestCase):
    def test_entries_stay_and_may_be_emptied(self):
        entries = list(BOOK)
        hall = replay(PLAN, TERM, entries)
        self.assertEqual(entries, BOOK)
        entries.clear()
        self.assertEqual(hall.entries(), BOOK)
        more = [("turn", hall.turn + 1)]
        go_on(hall, more)
        self.assertEqual(len(more), 1)
        more.clear()
        self.assertEqual(len(hall.entries()), len(BOOK) + 1)

    def test_what_is_handed_in_does_not_grow(self):
        entries = [("lease", 0, 4, "ann", 6), ("turn", 6)]
        hall = replay(PLAN, TERM, entries)
        hall.pass_on(3)
        self.assertEqual(entries, [("lease", 0, 4, "ann", 6), ("turn", 6)])
        self.assertEqual(len(hall.entries()), 5)


if __name__ == "__main__":
    unittest.main()
