"""Point 3: what holds over the whole program, on small drawn works."""

import random
import re
import unittest

from enoughhands.beside import within
from enoughhands.benches import Bench
from enoughhands.choosing import cheapest, vital
from enoughhands.fronts import front
from enoughhands.journals import journal, read_journal
from enoughhands.letruns import let_many
from enoughhands.losses import losses
from enoughhands.needless import idle, needless
from enoughhands.offers import changed
from enoughhands.plans import Plan
from enoughhands.quarrels import freed, quarrels
from enoughhands.restranks import rests, teams
from enoughhands.runs import every
from enoughhands.slack import more_stock, need_room
from enoughhands.teams import choice_teams, twins
from enoughhands.trades import levels, told_back
from enoughhands.trees import if_known, standings, surely
from enoughhands.workbeside import alike_days, idle_stock, whole_days, within_days
from enoughhands.works import Works

from tests import benching, changes, daily, plain, telling

NAMES = {"a": "zz", "b": "yy", "c": "xx", "d": "ww", "x": "x", "ann": "zoe", "bob": "yan", "cat": "xia", "dan": "will", "eve": "vic",
         "zoe": "hh", "yan": "ii"}


def named(value):
    """A value with other names, its lots sorted again."""
    if isinstance(value, str):
        return NAMES.get(value, value)
    return tuple(named(one) for one in value) if isinstance(value, tuple) else value


def lot_of_events(events):
    return tuple(sorted(named(events)))


class Beside(unittest.TestCase):

    def test_parts_within_one_another(self):
        """(a) With a plan in the place of one that it is within, the day wants no more stock, whatever is beside it."""
        rng = random.Random(31)
        found = strict = 0
        while found < 40:
            texts = [plain.any_text(rng, tuple(names)[:rng.randint(1, 3)], ("then", "beside")) for names in ("abc", "def")]
            trades = [plain.any_trade(rng, tuple(names), 4) for names in ("abc", "def")]
            if within(Plan(texts[0]), trades[0], Plan(texts[1]), trades[1]) != ("within",):
                continue
            found += 1
            around = plain.any_text(rng, ("slot", "u", "v", "w")[:rng.randint(2, 4)], plain.KINDS)
            more = plain.any_trade(rng, ("u", "v", "w"), rng.choice((4, 30)))
            wanted = []
            for text, trade in zip(texts, trades):
                plan = around.replace("slot", text)
                lines = [f"task {task} {need} {net}" for task, need, net in trade + more if task in plain.tree_tasks(plain.tree(plan))]
                works = Works("\n".join(["stock 0", f"plan {plan}", *lines, "may ann a b c u v w", "may bob d e f"]))
                wanted.append(more_stock(works, (), ())[1])
            self.assertLessEqual(wanted[0], wanted[1], (texts, trades, around, more))
            strict += wanted[0] < wanted[1]
        self.assertGreater(strict, 5)


class Backwards(unittest.TestCase):

    def test_runs(self):
        """(b) A run is let just if it is let backwards from the stock that it leaves, with the trade told back."""
        rng = random.Random(32)
        for text in plain.some_texts(33, 60, 4):
            trade = plain.any_trade(rng, ("a", "b", "c", "d"), 4)
            for run in every(Plan(text))[:30]:
                for stock in range(8):
                    end = stock + plain.total(plain.steps_of(trade, run))
                    if end >= 0:
                        let = len(levels(trade, stock, run)) == len(run) + 1
                        self.assertEqual(let, len(levels(told_back(trade), end, run[::-1])) == len(run) + 1)

    def test_whole_days(self):
        """(b) Whole days, backwards, are whole days of the works told backwards, from the level that they leave."""
        rng = random.Random(34)
        seen = 0
        for text in benching.some_works(rng, 40):
            works, told = Works(text), daily.Works(text)
            lines = text.split("\n")
            crew = "\n".join(lines[2 + len(told.trade):])
            for choice in told.choices:
                end = works.stock + sum(net for task, need, net in told.trade if task in choice)
                if end < 0:
                    continue
                tasks = [f"task {task} {need} {net}" for task, need, net in told_back(works.trade)]
                turned = Works("\n".join([f"stock {end}", f"plan {works.plan.turned.text}", *tasks, crew]))
                days = [day[::-1] for day in told.rests((), ()) if tuple(sorted(task for task, person in day)) == choice]
                back = [day for day in daily.Works(turned.text).rests((), ()) if tuple(sorted(task for task, person in day)) == choice]
                self.assertEqual(sorted(days), sorted(back))
                self.assertEqual(whole_days(turned.by(choice)), len(days))
                self.assertEqual(let_many(works.plan.chosen(choice), works.trade, works.stock),
                                 let_many(turned.plan.chosen(choice), turned.trade, end))
                seen += bool(days)
        self.assertGreater(seen, 30)


class More(unittest.TestCase):

    def test_more(self):
        """(c) With more stock, tasks, people, less duties, what could be finished can still be; no whole day is lost."""
        rng = random.Random(35)
        seen = 0
        for told, day, away in changes.tight_cases(rng, 160, ("a", "b", "c"), 3, 3):
            works = Works(told.text)
            offers = changes.any_offers(rng, told)
            more = changed(works, offers)
            with self.subTest(told.text, offers=offers):
                self.assertEqual(within_days(works, more), ("within",))
                self.assertGreaterEqual(whole_days(more), whole_days(works))
                self.assertGreaterEqual(-1 if losses(more, (), ()) is None else losses(more, (), ()),
                                        -1 if losses(works, (), ()) is None else losses(works, (), ()))
                if more_stock(works, (), ())[0] == "more" and "stock" not in [one[0] for one in offers]:
                    self.assertLessEqual(more_stock(more, (), ())[1], more_stock(works, (), ())[1])
                foreign = rng.choice(telling.foreign_lots(told.plan))
                if surely(works, foreign, ())[0] == "tree":
                    seen += 1
                    self.assertEqual(surely(more, foreign, ())[0], "tree")
                if rests(works, (), away):
                    self.assertTrue(rests(more, (), away) and rests(works, (), ()))
        self.assertGreater(seen, 20)


class Names(unittest.TestCase):

    def moved(self, rng, told):
        """The text with other names, lines and parts in another sequence; for each duty its number there."""
        def shuffled(shape):
            if isinstance(shape, str):
                return NAMES[shape]
            found = [shuffled(part) for part in shape[1]]
            if shape[0] != "then":
                rng.shuffle(found)
            return f"{shape[0]}({','.join(found)})"

        def words(line):
            return " ".join(NAMES.get(word, word) for word in line.split(" "))
        lines = told.text.split("\n")
        at = len(lines) - len(told.duties)
        tasks, mays = [[words(line) for line in lines if line.startswith(word)] for word in ("task ", "may ")]
        numbers = list(range(len(told.duties)))
        for rows in (tasks, mays, numbers):
            rng.shuffle(rows)
        text = "\n".join([lines[0], "plan " + shuffled(plain.tree(told.plan)), *tasks, *mays, *(words(lines[at + one]) for one in numbers)])
        return text, {one: place for place, one in enumerate(numbers)}

    def test_names(self):
        """(d) With other names and sequences the same is told by these."""
        rng = random.Random(36)
        for told, day, away in changes.tight_cases(rng, 130, ("a", "b", "c", "d"), 3, 3):
            text, numbers = self.moved(rng, told)
            one, other = Works(told.text), Works(text)
            moved, gone = named(day), tuple(sorted(named(away)))
            if daily.Works(text).wrong(moved):
                self.fail((told.text, text, moved))
            with self.subTest(told.text, other=text, day=day, away=away):
                for call in (rests, losses):
                    self.assertEqual(call(one, day, away), call(other, moved, gone))
                self.assertEqual(front(one, day, away)[0], front(other, moved, gone)[0])
                first, second = more_stock(one, day, away), more_stock(other, moved, gone)
                self.assertEqual(first[0], second[0])
                self.assertEqual(first[1] if first[0] == "more" else 0, second[1] if first[0] == "more" else 0)
                self.assertEqual(sorted(tuple(sorted(named(team))) for team in teams(one, day, away)), list(teams(other, moved, gone)))
                self.assertEqual(whole_days(one), whole_days(other))
                self.assertEqual(idle_stock(one)[0], idle_stock(other)[0])
                self.assertEqual(lot_of_events(idle(one)), idle(other))
                self.assertEqual(sorted(numbers[number] for number in needless(one)), list(needless(other)))
                self.assertEqual(self.lots(quarrels(one), numbers), quarrels(other))
                self.assertEqual(self.lots(freed(one), numbers), freed(other))
                self.assertEqual(sorted(tuple(sorted(named(pair))) for pair in twins(one)), list(twins(other)))
                for choice in told.choices:
                    wanted = sorted(tuple(sorted(named(team))) for team in choice_teams(one, choice))
                    self.assertEqual(wanted, list(choice_teams(other, tuple(sorted(named(choice))))))
                self.assertEqual(surely(one, (), away)[0], surely(other, (), gone)[0])
                if rests(one, day, away):
                    for task in told.tasks:
                        if task not in [done for done, person in day]:
                            room = need_room(one, day, away, task)
                            self.assertEqual(room[0], need_room(other, moved, gone, NAMES[task])[0])
                            if room[0] == "room":
                                self.assertEqual(room[1], need_room(other, moved, gone, NAMES[task])[1])

    def lots(self, told, numbers):
        return tuple(sorted(tuple(sorted(numbers[number] for number in lot)) for lot in told))

    def test_other_names_alone(self):
        """(d) What goes by the sequence of eithers is the same with other names."""
        rng = random.Random(37)
        for told, foreign, away in telling.cases(rng, 60):
            text = re.sub("\\b[a-z]+\\b", lambda found: NAMES.get(found[0], found[0]), told.text)
            one, other, gone = Works(told.text), Works(text), tuple(sorted(named(away)))
            self.assertEqual(standings(one, foreign, away), standings(other, foreign, gone))
            self.assertEqual(surely(one, foreign, away)[0], surely(other, foreign, gone)[0])
            self.assertEqual(if_known(one, foreign, away), if_known(other, foreign, gone))

    def test_offers(self):
        """(d) Offers serve whatever the names are."""
        rng = random.Random(38)
        for told, day, away in changes.tight_cases(rng, 60, ("a", "b", "c"), 2, 2):
            text, numbers = self.moved(rng, told)
            offers = changes.any_offers(rng, told)
            moved = tuple(sorted(("duty", numbers[one[1]], one[2]) if one[0] == "duty" else named(one) for one in offers))
            one, other = Works(told.text), Works(text)
            value, its = cheapest(one, offers), cheapest(other, moved)
            self.assertEqual((value[0], value[1] if value[0] == "choice" else 0), (its[0], its[1] if value[0] == "choice" else 0))
            self.assertEqual(len(vital(one, offers)), len(vital(other, moved)))


class NeverStuck(unittest.TestCase):

    def test_benches_go_on_to_the_end(self):
        """(e) By whatever open event a bench goes on, it comes to the end; each event that leaves rests is let."""
        rng = random.Random(39)
        for text in benching.some_works(rng, 60, ("a", "b", "c", "d")):
            bench = Bench(Works(text))
            while not bench.is_finished:
                told = daily.Works(bench.works.text)
                wanted = [event for event in told.events(bench.day, bench.away)
                          if told.has_rests(bench.day + (event,), bench.away)]
                self.assertEqual(list(bench.events()), wanted)
                self.assertTrue(wanted)
                for event in wanted:
                    self.assertIsNone(bench.tried(lambda one: one.do(*event)))
                bench.do(*rng.choice(wanted))
            self.assertEqual(bench.events(), ())
            self.assertIn(bench.day, daily.Works(text).rests((), ()))

    def test_benches_are_read_back_and_taken_back(self):
        """(e) Behind whatever deeds the day can be finished; a journal is read back; what is undone leaves nothing."""
        rng = random.Random(40)
        for text in benching.some_works(rng, 50):
            bench, model = Bench(Works(text)), benching.Model(text)
            for _ in range(10):
                deed = benching.any_deed(rng, model)
                try:
                    model.deed(*deed)
                    getattr(bench, deed[0])(*deed[1:])
                except benching.Refused:
                    pass
                self.assertGreater(bench.rests(), 0)
                self.assertTrue(read_journal(journal(bench)) == bench)
            ahead, many, works = journal(bench), bench.done, bench.works
            for _ in range(many):
                bench.undo()
                self.assertGreater(bench.rests(), 0)
            new = Bench(Works(text))
            self.assertTrue(bench == new)
            self.assertEqual((bench.works, bench.day, bench.away, bench.level, bench.done), (new.works, (), (), new.level, 0))
            for _ in range(many):
                bench.redo()
            self.assertEqual((journal(bench), bench.works), (ahead, works))

    def test_the_same_whole_days(self):
        """Works whose parts and duties stand in another sequence have the same whole days."""
        rng = random.Random(41)
        for text in benching.some_works(rng, 40):
            told = daily.Works(text)
            lines = text.split("\n")
            at = len(lines) - len(told.duties)
            parts = re.sub("(beside|either)\\(([a-z]+),([a-z]+)\\)", "\\1(\\3,\\2)", lines[1])
            other = Works("\n".join([lines[0], parts, *lines[2:at], *lines[:at - 1:-1]]))
            self.assertEqual(alike_days(Works(text), other), ("alike",))


if __name__ == "__main__":
    unittest.main()
