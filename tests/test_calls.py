"""Point 2: equal calls tell the same, whoever made the objects, and nothing that is handed in is changed."""

import copy
import unittest

from enoughhands import (benches, beside, chances, choosing, crewbeside, crews, days, dealing, dealranks, desk, duties, finishing,
                         fronts, hands, journals, letruns, losses, lots, needless, normal, offers, pairs, parts, plans, quarrels,
                         restranks, rows, runs, shares, slack, stairs, stuck, sums, teams, trades, trees, wanting, workbeside, works)
from enoughhands.errors import HandError

from tests import plain

TRADE = (("a", 2, 1), ("b", 3, -1), ("c", 4, 2), ("d", 4, -4))
STAIRS, ROW = ((2, 3), (3, 4)), (3, 1, ((2, 3), (3, 4)), ((0, 3),))
RUNS = (("a", "b", "d"), ("d", "a", "b"))
DEAL, ALL, NOBODY = (("a", "ann"), ("c", "bob")), ("a", "b", "c"), ()
DAY, ANN, BOB = (("a", "ann"),), ("ann",), ("bob",)
STANDING, OFFERS = (DAY, ((0, 1),)), (("duty", 0, 1), ("hire", "eve", "a", 2), ("need", "d", 3, 1), ("stock", 2, 3))


def one():
    return plans.Plan("beside(then(a,either(b,c)),d)")


def two():
    return plans.Plan("beside(then(a,b),d)")


def crew():
    return crews.Crew("may ann b a\nmay bob c b\nunlike c a\nfew 2 b c\nmost bob 2")


def work():
    return works.Works(f"stock 4\nplan {one().text}\ntask a 2 1\ntask b 3 -1\ntask d 4 -4\nmay ann b a d\nmay bob c b d\n"
                       "unlike c a\nfew 2 b c")


def bench():
    made = benches.Bench(work())
    made.do("a", "ann")
    made.teach("bob", "a")
    made.give(3)
    made.undo()
    return made


CALLS = [
    (lambda plan, done: plan.next(done), lambda: (one(), ("a",))),
    (lambda plan, done: plan.rest(done).text, lambda: (one(), ("a",))),
    (lambda plan, choice: plan.chosen(choice).text, lambda: (one(), ("a", "b", "d"))),
    (runs.many, lambda: (one(),)), (runs.every, lambda: (one(),)), (runs.lots, lambda: (one(),)),
    (runs.nth, lambda: (one(), 3)), (runs.number_of, lambda: (one(), RUNS[0])), (runs.is_run, lambda: (one(), ["a"])),
    (runs.between, lambda: (one(), *RUNS)), (runs.shows_between, lambda: (one(), *RUNS, ["rows", [RUNS]])),
    (pairs.word, lambda: (one(), "a", "d")), (pairs.words, lambda: (one(),)), (pairs.told, lambda: (pairs.words(one()),)),
    (pairs.shows_told, lambda: (pairs.words(one()), ["plan", one().text])),
    (lambda plan: normal.normal(plan).text, lambda: (one(),)), (normal.same, lambda: (one(), two())),
    (normal.shows_same, lambda: (one(), two(), ["same"])), (normal.within_runs, lambda: (one(), two())),
    (normal.shows_within_runs, lambda: (one(), two(), {"more": 1})),
    (parts.clusters, lambda: (one(),)), (parts.is_cluster, lambda: (one(), ["b", "c"])),
    (lambda *told: parts.only(*told).text, lambda: (one(), ("a", "c"))),
    (lambda *told: parts.put(*told).text, lambda: (one(), ("b", "c"), plans.Plan("then(x,y)"))),
    (lambda *told: parts.around(*told).text, lambda: (one(), ("b", "c"), "x")),
    (trades.levels, lambda: (TRADE, 9, ("a", "b"))), (trades.least, lambda: (TRADE, ("a", "b"))),
    (trades.net, lambda: (TRADE, ("a", "b"))), (trades.told_back, lambda: (TRADE,)), (trades.told_back, lambda: ([TRADE],)),
    (stairs.stairs_of, lambda: (((2, 3), (6, 1)),)), (stairs.steps_back, lambda: (((2, 3), (6, 1)),)),
    (stairs.steps_by, lambda: (TRADE, ("a", "b"))), (stairs.gain_at, lambda: (STAIRS, 2)),
    (stairs.no_less, lambda: (STAIRS, ((0, 1),))), (stairs.both, lambda: (STAIRS, STAIRS)),
    (rows.first, lambda: (one(), TRADE)), (rows.shows_first, lambda: (one(), TRADE, ["first", 1])),
    (rows.spare, lambda: (one(), TRADE, 50)), (rows.row_of, lambda: (((2, 3), (6, 1)),)), (rows.back, lambda: (ROW,)),
    (rows.plain_steps, lambda: (ROW,)), (rows.row, lambda: (two(), TRADE)), (rows.best, lambda: (two(), TRADE)),
    (rows.shows_best, lambda: (two(), TRADE, ["a", "b", "d"])),
    (sums.then_row, lambda: (ROW, ROW)), (sums.beside_row, lambda: (ROW, ROW)),
    (sums.row_by, lambda: (two(), (("a", ROW), ("b", ROW), ("d", ROW)))),
    (beside.first_beside, lambda: (two(), TRADE, 3, -1)), (beside.first_with, lambda: (ROW, ((1, 1),))),
    (beside.row_within, lambda: (ROW, (3, 1, ((3, 1),), ()))), (beside.shows_row_within, lambda: (ROW, ROW, [1, 2])),
    (beside.within, lambda: (two(), TRADE, two(), ())), (beside.shows_within, lambda: (two(), (), two(), (), ["within"])),
    (beside.alike, lambda: (two(), TRADE, two(), ())), (beside.shows_alike, lambda: (two(), (), two(), (), ["alike"])),
    (lots.reached_lots, lambda: (one(), TRADE, 4)), (lots.safe_lots, lambda: (one(), TRADE, 4)),
    (lots.guide, lambda: (one(), TRADE, 4)), (lots.traps, lambda: (one(), TRADE, 4)),
    (lots.room, lambda: (one(), TRADE, 9, ("a",))), (lots.room, lambda: (one(), TRADE, 9, ["a"])),
    (lots.is_closed, lambda: (one(), TRADE, 4, [()])), (stuck.can, lambda: (one(), TRADE, 4)),
    (stuck.can, lambda: (one(), TRADE, 0)), (stuck.shows_can, lambda: (one(), TRADE, 4, ["stuck", [()]])),
    (stuck.never, lambda: (one(), TRADE, 4)), (stuck.shows_never, lambda: (one(), TRADE, 4, ["stuck", ()])),
    (stuck.sure_stocks, lambda: (one(), TRADE)), (stuck.forced, lambda: (one(), TRADE, 9)),
    (stuck.forced, lambda: (one(), TRADE, 0)), (letruns.let_many, lambda: (one(), TRADE, 9)),
    (letruns.let_nth, lambda: (one(), TRADE, 9, 1)), (letruns.let_number, lambda: (one(), TRADE, 9, RUNS[0])),
    (letruns.let_every, lambda: (one(), TRADE, 9)), (letruns.let_stairs, lambda: (one(), TRADE)),
    (letruns.joined, lambda: (one(), TRADE, 9, *RUNS)), (letruns.joined, lambda: (one(), TRADE, 9, ["a"], 1)),
    (letruns.shows_joined, lambda: (one(), TRADE, 9, *RUNS, ["rows", [RUNS]])),
    (lambda crew, person: crew.may(person), lambda: (crew(), "ann")),
    (lambda crew, *told: crew.with_may(*told).text, lambda: (crew(), "ann", "x")),
    (lambda crew, *told: crew.without_may(*told).text, lambda: (crew(), "ann", ["b"])),
    (lambda crew, duty: crew.with_duty(duty).text, lambda: (crew(), ("same", ("b", "c")))),
    (lambda crew, number: crew.without_duty(number).text, lambda: (crew(), 1)),
    (duties.broken, lambda: (crew(), DEAL)), (duties.is_kept, lambda: (crew(), [DEAL])),
    (duties.pattern_of, lambda: (crew(), DEAL)), (duties.patterns, lambda: (crew(), ALL)),
    (crewbeside.kept_within, lambda: (crew(), crew().without_duty(0))),
    (crewbeside.kept_within, lambda: (crew().without_duty(0), crew())),
    (crewbeside.shows_kept_within, lambda: (crew(), crew(), ["within"])),
    (crewbeside.kept_alike, lambda: (crew(), crew().without_duty(0))),
    (crewbeside.shows_kept_alike, lambda: (crew(), crew(), ["alike", {}])),
    (crewbeside.idle_duties, lambda: (crew(),)), (crewbeside.idle_mays, lambda: (crew(),)),
    (lambda *told: crewbeside.common(*told).text, lambda: (crew(), crew())),
    (shares.shares, lambda: (crew(), ALL, NOBODY, ("ann",), "bob")), (shares.leads, lambda: (crew(), ALL, ((), (0, 0)), ("a",))),
    (hands.reached, lambda: (crew(), ALL, DEAL, NOBODY, 5)), (hands.is_hands, lambda: (crew(), ALL, NOBODY, NOBODY, 1, [()])),
    (dealing.dealt, lambda: (crew(), ALL, NOBODY, NOBODY, 5)), (dealing.dealt, lambda: (crew(), ALL, NOBODY, NOBODY, 1)),
    (dealing.shows_dealt, lambda: (crew(), ALL, DEAL, NOBODY, 5, ["deal", [DEAL]])),
    (dealing.fewest, lambda: (crew(), ALL, NOBODY, NOBODY)), (dealing.fewest, lambda: (crew(), ("x",), NOBODY, NOBODY)),
    (dealing.shows_fewest, lambda: (crew(), ALL, NOBODY, NOBODY, ["people", 1])),
    (dealing.able, lambda: (crew(), ALL, DEAL, ("ann",))), (dealing.needed, lambda: (crew(), ALL, NOBODY, NOBODY)),
    (dealranks.deals, lambda: (crew(), ALL, NOBODY, NOBODY)), (dealranks.every_deal, lambda: (crew(), ALL, DEAL, NOBODY)),
    (dealranks.nth_deal, lambda: (crew(), ("b", "c"), NOBODY, NOBODY, 1)),
    (dealranks.number_of_deal, lambda: (crew(), ALL, DEAL, NOBODY, (("a", "ann"), ("b", "bob"), ("c", "bob")))),
    (dealranks.number_of_deal, lambda: (crew(), ALL, DEAL, NOBODY, [DEAL])), (wanting.wanting, lambda: (crew(), ALL)),
    (wanting.wanting, lambda: (crews.Crew("may ann a\nmost ann 0"), ALL)),
    (wanting.shows_wanting, lambda: (crews.Crew("may ann a"), ALL, ["want", ["b"]])),
    (lambda works, stock: works.with_stock(stock).text, lambda: (work(), 7)),
    (lambda works, choice: works.by(choice).text, lambda: (work(), ("a", "b", "d"))),
    (days.wrong, lambda: (work(), [DAY])), (days.wrong, lambda: (work(), DAY)), (days.level, lambda: (work(), DAY)),
    (lambda works, day: days.left(works, day).text, lambda: (work(), DAY)), (days.is_finished, lambda: (work(), DAY)),
    (finishing.finish, lambda: (work(), DAY, NOBODY)), (finishing.finish, lambda: (work(), DAY, BOB)),
    (finishing.finish, lambda: (work(), [DAY], BOB)), (finishing.shows_finish, lambda: (work(), DAY, BOB, ["rest", [()]])),
    (finishing.choices_left, lambda: (work(), DAY, BOB)), (restranks.rests, lambda: (work(), DAY, NOBODY)),
    (restranks.nth_rest, lambda: (work(), DAY, NOBODY, 0)),
    (restranks.number_of_rest, lambda: (work(), DAY, NOBODY, finishing.finish(work(), DAY, NOBODY)[1])),
    (restranks.open_events, lambda: (work(), DAY, NOBODY)), (restranks.shut_events, lambda: (work(), DAY, NOBODY)),
    (restranks.leaving, lambda: (work(), DAY, NOBODY)), (restranks.teams, lambda: (work(), DAY, NOBODY)),
    (fronts.front, lambda: (work(), DAY, NOBODY)), (fronts.front, lambda: (work(), DAY, ANN)),
    (fronts.shows_front, lambda: (work(), DAY, ANN, [(), ["paper"]])), (fronts.short, lambda: (work(), (), NOBODY, 2)),
    (lambda plan: tuple(one.text for one in chances.eithers(plan)), lambda: (one(),)),
    (lambda *told: chances.by(*told).text, lambda: (one(), (0,), ((0, 1),))), (chances.asks, lambda: (one(), (0,), (), ("a",))),
    (chances.asks, lambda: (one(), (0,), [()], ("a",))), (trees.standings, lambda: (work(), (0,), NOBODY)),
    (trees.surely, lambda: (work(), (0,), NOBODY)), (trees.surely, lambda: (work(), (), NOBODY, ((), ()))),
    (trees.surely, lambda: (work(), (0,), NOBODY, [STANDING])), (trees.view, lambda: (work(), (0,), NOBODY, STANDING)),
    (trees.shows_surely, lambda: (work(), (0,), NOBODY, STANDING, ["lost", [STANDING]])),
    (trees.if_known, lambda: (work(), (0,), BOB)), (lambda *told: offers.changed(*told).text, lambda: (work(), OFFERS)),
    (choosing.cheapest, lambda: (work(), OFFERS)), (choosing.cheapest, lambda: (work(), [OFFERS])),
    (choosing.shows_cheapest, lambda: (work(), OFFERS, ["none", [()]])), (choosing.vital, lambda: (work(), OFFERS)),
    (slack.more_stock, lambda: (work(), DAY, NOBODY)), (slack.more_stock, lambda: (work(), DAY, BOB)),
    (slack.shows_more_stock, lambda: (work(), DAY, BOB, ["never", [()]])),
    (slack.need_room, lambda: (work().with_stock(9), (), NOBODY, "d")), (slack.need_room, lambda: (work(), (), NOBODY, "d")),
    (slack.shows_need_room, lambda: (work().with_stock(9), (), NOBODY, "b", ["free", [()]])),
    (losses.holds, lambda: (work().with_stock(9), (), NOBODY, 0)), (losses.holds, lambda: (work(), (), NOBODY, 1)),
    (losses.shows_holds, lambda: (work(), (), NOBODY, 1, ["holds", {}])), (losses.losses, lambda: (work(), DAY, NOBODY)),
    (quarrels.quarrels, lambda: (work(),)), (quarrels.freed, lambda: (work().with_stock(9),)),
    (needless.needless, lambda: (work(),)), (needless.idle, lambda: (work(),)),
    (workbeside.within_days, lambda: (work(), work().with_stock(0))), (workbeside.within_days, lambda: (work(), [work()])),
    (workbeside.shows_within_days, lambda: (work(), work(), ["within"])),
    (workbeside.alike_days, lambda: (work().with_stock(0), work())),
    (workbeside.shows_alike_days, lambda: (work(), work(), ["parts", (), 0])), (workbeside.whole_days, lambda: (work(),)),
    (workbeside.shared_days, lambda: (work(), work().with_stock(9))),
    (lambda *told: workbeside.both_works(*told).text, lambda: (work(), work().with_stock(2))),
    (workbeside.idle_stock, lambda: (work().with_stock(9),)), (teams.manages, lambda: (work(), ("a", "b", "d"), BOB)),
    (teams.manages, lambda: (work(), ("a", "b", "d"), ("ann", "bob"))), (teams.manages, lambda: (work(), ("a", "b", "d"), [BOB])),
    (teams.shows_manages, lambda: (work(), ("a", "b", "d"), BOB, ["none", ()])),
    (teams.choice_teams, lambda: (work(), ("a", "b", "d"))), (teams.twins, lambda: (work(),)),
    (journals.journal, lambda: (bench(),)), (lambda text: journals.read_journal(text).day, lambda: (journals.journal(bench()),)),
    (lambda text: desk.Desk(text).say("events"), lambda: (journals.journal(bench()),)),
    (lambda told: (told.events(), told.front(), told.rests(), len(told), ("a", "ann") in told), lambda: (bench(),)),
    (lambda told: (told.tried(len), journals.journal(told.copy())), lambda: (bench(),)),
    (lambda told: told.do("a", "ann"), lambda: (bench(),)), (lambda told: told.bind(["x"]), lambda: (bench(),)),
]


def told(call, args):
    """What a call returns, or its error and value."""
    try:
        return ("returned", call(*args))
    except HandError as error:
        return (type(error).__name__, error.value)


class Calls(unittest.TestCase):

    def test_equal_calls(self):
        for at, (call, make) in enumerate(CALLS):
            with self.subTest(at):
                args = make()
                first = told(call, args)
                self.assertEqual(told(call, args), first)
                self.assertEqual(told(call, make()), first)

    def test_nothing_is_changed(self):
        for at, (call, make) in enumerate(CALLS):
            with self.subTest(at):
                args = make()
                ahead = copy.deepcopy(args)
                told(call, args)
                self.assertTrue(plain.alike(args, ahead))
                for crew_told in args:
                    if isinstance(crew_told, crews.Crew):
                        same = crews.Crew(crew_told.text)
                        self.assertEqual((crew_told.people, crew_told.duties, [crew_told.may(p) for p in same.people]),
                                         (same.people, same.duties, [same.may(p) for p in same.people]))
                for works_told in args:
                    if isinstance(works_told, works.Works):
                        same = works.Works(works_told.text)
                        self.assertEqual((works_told.stock, works_told.plan, works_told.trade, works_told.crew),
                                         (same.stock, same.plan, same.trade, same.crew))
                for plan in args:
                    if isinstance(plan, plans.Plan):
                        same = plans.Plan(plan.text)
                        self.assertEqual((plan.kind, plan.parts, plan.tasks, plan.choices, plan.is_plain, plan.turned),
                                         (same.kind, same.parts, same.tasks, same.choices, same.is_plain, same.turned))

    def test_results_are_tuples(self):
        """No list, set or dict is ever returned, however deep."""
        def is_plain(value):
            if isinstance(value, tuple):
                return all(is_plain(part) for part in value)
            return value is None or type(value) in (int, str, bool)

        for at, (call, make) in enumerate(CALLS):
            kind, value = told(call, make())
            if kind == "returned":
                self.assertTrue(is_plain(value), (at, value))


if __name__ == "__main__":
    unittest.main()
