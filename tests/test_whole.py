"""The whole program: the same things reached on several ways, which meet."""

import random

from helpers import AB, EVEN, LETTERS, Case, chain, cycle, is_yes, rows_up_to, some_reader, with_useless, yes_rows

from rowreaders.benches import Bench
from rowreaders.books import agree, clash, first_difference, image, is_read_back, origin, version
from rowreaders.certificates import certify_books, certify_count, certify_duel, certify_least, certify_reset
from rowreaders.certificates import certify_same, certify_within
from rowreaders.checker import accepts
from rowreaders.console import Console
from rowreaders.counts import form_of, growth, rule_of, share
from rowreaders.deeds import deed_of, deeds_of, group_row, is_groupfree, round_of
from rowreaders.duels import barring, least_turns, plan, turns_of, winning
from rowreaders.endless import both_loops, closed, either_loops, fronts_of, loops_behind, other_loops, same_loops
from rowreaders.endless import watcher_of, watches
from rowreaders.errors import Broken, TooMany
from rowreaders.guessers import first_twice, guesser_of, reader_from, turned, ways_of
from rowreaders.hidden import fewest_stands, fitting, learned, sure_answer
from rowreaders.leading import fewest_left, joins, reset_row, reset_rows, said_along
from rowreaders.likeness import first_apart, first_outside, first_rows, is_within, least, parting, same_rows
from rowreaders.listing import count_of, is_endless, longest, number_of, row_at, rows_of
from rowreaders.logs import done, played
from rowreaders.making import again, behind, both, either, fronts, mirrored, one_alone, other_rows, pieces, renamed
from rowreaders.making import rests_ahead, rests_behind, shuffled, strewn_pieces, struck, tails
from rowreaders.numbers import first_numbers, fulfils, how_many_below, numbers_by, reader_for, row_for
from rowreaders.readers import Reader, all_rows, filled, first_yes, led_to, no_rows, only, says, useful
from rowreaders.rounds import greatest, round_of_numbers
from rowreaders.shelves import Shelf
from rowreaders.texts import reader_in, reader_text
from rowreaders.weighers import first_unlike, order_of, product_of, same_values, sum_of, total, value, weigher_of
from rowreaders.weighers import ways_weigher
from rowreaders.writers import Writer, early, first_unlike_row, image_of, origin_of, same_writers, then, two_alike, written

IDENTITY = tuple(LETTERS)


def readers_of_all_kinds(seed, many, most=5):
    chance = random.Random(seed)
    made = [EVEN, AB, all_rows(1), no_rows(2), only(3, ("ab", "c")), cycle(4, 2), chain((0, 3), 2), with_useless(AB)]
    for _ in range(many):
        made.append(some_reader(chance, chance.choice([1, 2, 2, 3]), chance.randint(1, most), chance.choice([0, 0.2, 0.5])))
    return made


def pairs_of_all_kinds(seed, many):
    chance = random.Random(seed)
    made = readers_of_all_kinds(seed, many, 4)
    for reader in made:
        others = [other for other in made if other.signs == reader.signs]
        yield reader, chance.choice(others + [filled(reader), least(reader), with_useless(reader), other_rows(reader)])


def by_deeds(reader):
    """The reader whose stands are the deeds of rows."""
    found = deeds_of(reader)
    number = {deed: at for at, (_, deed) in enumerate(found)}
    letters = LETTERS[:reader.signs]
    arrows = tuple(tuple(number[deed_of(reader, row + sign)] for sign in letters) for row, _ in found)
    return Reader(reader.signs, arrows, tuple(at for at, (row, _) in enumerate(found) if is_yes(reader, row)))


def by_bench(reader):
    """The reader brought about by deeds on a bench, one by one."""
    bench = Bench(no_rows(reader.signs))
    for _ in range(len(reader) - 1):
        bench.grow()
    for stand, goals in enumerate(reader.arrows):
        for sign, goal in zip(LETTERS, goals):
            if goal is not None:
                bench.lead(stand, sign, goal)
        if stand in reader.ends:
            bench.turn(stand)
    return bench


def writer_of(reader, book, signs):
    """The writer that writes the versions by a book."""
    words = tuple(tuple(None if goal is None else word for goal, word in zip(goals, book)) for goals in reader.arrows)
    return Writer(reader, signs, "", words, tuple("" if at in reader.ends else None for at in range(len(reader))))


class LeastTest(Case):
    def test_least_readers(self):
        for reader in readers_of_all_kinds(401, 60):
            signs, letters, made = reader.signs, LETTERS[:reader.signs], least(reader)
            some = only(signs, ("", letters, "a"))
            backwards = letters[1:] + letters[:1]
            there = letters[-1:] + letters[:-1]
            ways = [least(made), least(filled(reader)), least(with_useless(reader)), mirrored(mirrored(reader)),
                    reader_in(reader_text(made)), other_rows(other_rows(reader)), both(reader, all_rows(signs)),
                    either(reader, no_rows(signs)), behind(reader, only(signs, ("",))), behind(only(signs, ("",)), reader),
                    one_alone(one_alone(reader, some), some), renamed(renamed(reader, backwards), there),
                    renamed(reader, letters), struck(reader, ""), rests_behind(reader, ""), rests_ahead(reader, ""),
                    shuffled(reader, only(signs, ("",))), reader_from(guesser_of(reader)),
                    reader_from(turned(turned(guesser_of(reader)))), mirrored(reader_from(turned(guesser_of(reader)))),
                    image(reader, signs, IDENTITY[:signs]), origin(reader, signs, IDENTITY[:signs]),
                    image_of(writer_of(reader, IDENTITY[:signs], signs)), origin_of(writer_of(all_rows(signs), letters, signs), reader),
                    least(early(writer_of(reader, IDENTITY[:signs], signs)).reader), Reader(*certify_least(reader)[0][1]),
                    other_rows(either(other_rows(reader), no_rows(signs))),
                    learned(signs, lambda row: is_yes(reader, row), lambda guess: first_apart(guess, reader))[0]]
            if len(made) <= 3:
                ways.append(least(by_deeds(reader)))
            if reader.signs * len(reader) <= 12:
                ways += [least(by_bench(reader).reader), least(played(no_rows(signs), by_bench(reader).log).reader)]
            self.assertEqual([way == made for way in ways], [True] * len(ways), reader_text(reader))
            self.assertEqual(first_rows(reader), tuple(min(
                (row for row in rows_up_to(signs, 5) if led_to(made, row) == stand), key=lambda row: (len(row), row))
                for stand in range(len(made))))

    def test_books_of_rows(self):
        """What is made of finitely many rows has all those that its words tell."""
        chance = random.Random(402)
        for _ in range(25):
            rows, others = [sorted({"".join(chance.choice("ab") for _ in range(chance.randint(0, 3)))
                                    for _ in range(chance.randint(0, 3))}) for _ in range(2)]
            one, other = only(2, tuple(rows)), only(2, tuple(others))
            for made, wanted in (
                    (both(one, other), set(rows) & set(others)), (either(one, other), {*rows, *others}),
                    (one_alone(one, other), set(rows) ^ set(others)), (mirrored(one), {row[::-1] for row in rows}),
                    (behind(one, other), {row + rest for row in rows for rest in others}),
                    (fronts(one), {row[:at] for row in rows for at in range(len(row) + 1)}),
                    (tails(one), {row[at:] for row in rows for at in range(len(row) + 1)}),
                    (pieces(one), {row[at:to] for row in rows for at in range(len(row) + 1) for to in range(at, len(row) + 1)}),
                    (rests_behind(one, "a"), {row[1:] for row in rows if row[:1] == "a"}),
                    (rests_ahead(one, "a"), {row[:-1] for row in rows if row[-1:] == "a"}),
                    (struck(one, "a"), {row.replace("a", "") for row in rows}),
                    (renamed(one, "ba"), {row.replace("a", "c").replace("b", "a").replace("c", "b") for row in rows})):
                self.assertEqual(made, only(2, tuple(sorted(wanted))))
            self.assertEqual(strewn_pieces(one), strewn_pieces(strewn_pieces(mirrored(mirrored(one)))))
            self.assertEqual(again(one), again(again(one)))
            self.assertEqual(mirrored(again(one)), again(mirrored(one)))
            self.assertEqual(shuffled(one, other), shuffled(other, one))

    def test_laws(self):
        for one, other in pairs_of_all_kinds(403, 30):
            self.assertEqual(mirrored(behind(one, other)), behind(mirrored(other), mirrored(one)))
            self.assertEqual(other_rows(both(one, other)), either(other_rows(one), other_rows(other)))
            self.assertEqual(one_alone(one, other), both(either(one, other), other_rows(both(one, other))))
            self.assertEqual(fronts(one), mirrored(tails(mirrored(one))))
            self.assertEqual(pieces(one), tails(fronts(one)))
            self.assertEqual(pieces(one), fronts(tails(one)))
            self.assertEqual(tails(either(one, other)), either(tails(one), tails(other)))
            self.assertEqual(again(either(one, other)), again(behind(again(one), again(other))))


class AlikeTest(Case):
    def test_alike_or_not(self):
        for one, other in pairs_of_all_kinds(404, 80):
            same = least(one) == least(other)
            row = first_apart(one, other)
            self.assertIs(row is None, same)
            self.assertIs(same_rows(one, other), same)
            self.assertIs(is_within(one, other) and is_within(other, one), same)
            self.assertIs(one_alone(one, other) == no_rows(one.signs), same)
            self.assertEqual(first_yes(one_alone(one, other)), row)
            self.assertEqual(first_unlike(weigher_of(one), weigher_of(other)), row)
            self.assertIs(same_values(weigher_of(one), weigher_of(other)), same)
            self.assertEqual(certify_same(one, other)[0][0], "same" if same else "apart")
            self.assertEqual(first_yes(both(one, other_rows(other))), first_outside(one, other))
            self.assertEqual(certify_within(one, other)[0][0], "within" if is_within(one, other) else "outside")
            self.assertIs(agree_by_console(one, other, "same"), same)
            self.assertIs(agree_by_console(one, other, "within"), is_within(one, other))
            self.assertIs(agree_by_console(one, other, "apart"), both(one, other) == no_rows(one.signs))
            if row is not None:
                self.assertNotEqual(says(one, row), says(other, row))
                self.assertTrue(accepts(("apart", certify_least(one)[0][1], certify_least(other)[0][1]), row))

    def test_hidden_and_listed(self):
        for reader in readers_of_all_kinds(405, 20, 3):
            if reader.signs > 2:
                continue
            yes = tuple(yes_rows(reader, 4))[:12]
            no = tuple(row for row in rows_up_to(reader.signs, 4) if not is_yes(reader, row))[:12]
            made = least(reader)
            if len(made) <= 3:
                found = fitting(reader.signs, 3, yes, no)
                self.assertIn(made, list(found))
                self.assertEqual(fewest_stands(reader.signs, yes, no), len(found[0]))
                self.assertIn(sure_answer(reader.signs, 3, yes, no, "aaaaa"), (None, says(reader, "aaaaa")))
            for number, row in enumerate(yes):
                self.assertEqual(row_at(reader, number), row)
                self.assertEqual(number_of(reader, row), number)
            self.assertEqual(first_yes(reader), row_at(reader, 0))
            self.assertIs(is_endless(reader), growth(reader) != -1)
            rest = longest(reader)
            self.assertIs(rest is None, is_endless(reader) or first_yes(reader) is None)
            self.assertEqual(rest is not None and count_of(reader, rest + 1), 0 if rest is not None else False)


def agree_by_console(one, other, word):
    """Whether a claim about two readers is taken by a console, and by a shelf as well."""
    console, shelf = Console(), Shelf()
    told = []
    for name, reader in (("one", one), ("other", other)):
        console.say(f"{name} = {reader_text(reader)}")
        shelf[name] = reader
    for claim in (lambda: console.say(f"one {word} other"), lambda: shelf.claim((word, "one", "other"))):
        try:
            claim()
            told.append(True)
        except Broken as error:
            assert error.index == 0
            told.append(False)
    assert told[0] == told[1]
    return told[0]


class NumbersOfRowsTest(Case):
    def test_counts(self):
        for reader in readers_of_all_kinds(406, 50):
            top, bottom = form_of(reader)
            rule, weigher = rule_of(reader), weigher_of(reader)
            found = [count_of(reader, length) for length in range(12)]
            powers = []
            for at in range(12):
                powers.append((top[at] if at < len(top) else 0) - sum(
                    bottom[back] * powers[at - back] for back in range(1, min(at, len(bottom) - 1) + 1)))
            self.assertEqual(powers, found)
            for at in range(12 - len(rule)):
                self.assertEqual(found[at + len(rule)], sum(rule[back] * found[at + back] for back in range(len(rule))))
            for length in range(7):
                self.assertEqual(total(weigher, length), found[length])
                self.assertEqual(certify_count(reader, length)[0][3], found[length])
                self.assertEqual(count_by_console(reader, length), found[length])
                if found[length] <= 1000:
                    self.assertEqual(len(rows_of(reader, length)), found[length])
            self.assertLessEqual(order_of(weigher), len(least(reader)))
            self.assertEqual(order_of(weigher), order_of(weigher_of(mirrored(reader))))
            self.assertEqual(share(reader)[0] == 0, share(either(reader, no_rows(reader.signs)))[0] == 0)
            for row in rows_up_to(reader.signs, 3):
                self.assertEqual(value(weigher, row), int(says(reader, row)))
                self.assertEqual(value(sum_of(weigher, weigher), row), 2 * value(product_of(weigher, weigher), row))
                guesser = guesser_of(reader)
                self.assertEqual(value(ways_weigher(guesser), row), ways_of(guesser, row))
            self.assertIsNone(first_twice(guesser_of(reader)))

    def test_deeds(self):
        for reader in readers_of_all_kinds(407, 40, 4):
            found = deeds_of(reader)
            self.assertIs(is_groupfree(reader), all(round_of(reader, row)[1] == 1 for row, _ in found))
            goes_round = [row for row, _ in found if round_of(reader, row)[1] > 1]
            self.assertEqual(group_row(reader), goes_round[0] if goes_round else None)
            self.assertIs(is_groupfree(reader), is_groupfree(filled(reader)))
            # What is told of deeds does not hang on which side one reads from, as far as rounds go.
            self.assertIs(is_groupfree(reader), is_groupfree(mirrored(reader)))
            console = Console()
            console.say(f"x = {reader_text(reader)}")
            try:
                self.assertEqual(console.say("x groupfree"), "ok")
                self.assertTrue(is_groupfree(reader))
            except Broken:
                self.assertFalse(is_groupfree(reader))


def count_by_console(reader, length):
    console = Console()
    console.say(f"x = {reader_text(reader)}")
    return int(console.say(f"x count {length}"))


class WordsTest(Case):
    def test_books_against_writers(self):
        chance = random.Random(408)
        for reader in readers_of_all_kinds(409, 60, 4):
            book, second = [tuple(chance.choice(["", "a", "b", "ab", "ba", "aab"]) for _ in range(reader.signs))
                            for _ in range(2)]
            second = chance.choice([book, second])
            one, other = writer_of(reader, book, 2), writer_of(reader, second, 2)
            for row in rows_up_to(reader.signs, 4):
                self.assertEqual(written(one, row), version(reader, book, row) if says(reader, row) else None)
                self.assertEqual(written(early(one), row), written(one, row))
            self.assertEqual(image_of(one), image(reader, 2, book))
            self.assertEqual(image_of(early(one)), image(reader, 2, book))
            self.assertIs(same_writers(one, other), agree(reader, book, second))
            self.assertEqual(first_unlike_row(one, other), first_difference(reader, book, second))
            self.assertEqual(certify_books(reader, book, second)[0][0], "agree" if agree(reader, book, second) else "differ")
            self.assertIs(two_alike(one) is None, is_read_back(reader, book))
            self.assertIs(clash(reader, book) is None, is_read_back(reader, book))
            whole = writer_of(all_rows(reader.signs), book, 2)
            goal = some_reader(chance, 2, 3)
            self.assertEqual(origin_of(whole, goal), origin(goal, reader.signs, book))
            self.assertEqual(origin_of(one, goal), both(reader, origin(goal, reader.signs, book)))
            mapped = writer_of(all_rows(2), ("ab", "b"), 2)
            joined = then(one, mapped)
            self.assertEqual(image_of(joined), image(image(reader, 2, book), 2, ("ab", "b")))
            self.assertEqual(joined, early(joined))


def with_zeros_left_out(reader):
    """All rows that are a yes row if some a's are put behind them."""
    while True:
        more = either(reader, rests_ahead(reader, "a"))
        if more == reader:
            return reader
        reader = more


class FormulasTest(Case):
    def some_formula(self, chance, numbers, depth):
        kind = chance.choice(["sum", "sum", "in"] if depth == 0 else ["sum", "in", "not", "and", "or", "some", "all"])
        if kind in ("some", "all") and numbers > 1:
            kind = "not"
        if kind == "sum":
            factors = tuple(chance.randint(-3, 3) for _ in range(numbers))
            return "sum", factors, chance.choice(["=", "<=", "<="]), chance.randint(-3, 8)
        if kind == "in":
            return "in", chance.randrange(numbers), some_reader(chance, 2, chance.randint(1, 2), 0.2)
        if kind in ("not", "some", "all"):
            return kind, self.some_formula(chance, numbers + (kind != "not"), depth - 1)
        return kind, self.some_formula(chance, numbers, depth - 1), self.some_formula(chance, numbers, depth - 1)

    def test_formulas_against_making(self):
        chance = random.Random(410)
        for _ in range(60):
            tracks = chance.choice([1, 1, 2])
            one, other = [self.some_formula(chance, tracks, chance.choice([0, 1, 1, 2])) for _ in range(2)]
            here, there = reader_for(tracks, one), reader_for(tracks, other)
            self.assertEqual(reader_for(tracks, ("and", one, other)), both(here, there))
            self.assertEqual(reader_for(tracks, ("or", one, other)), either(here, there))
            self.assertEqual(reader_for(tracks, ("not", one)), other_rows(here))
            # A's behind a row change no number.
            zeros = again(only(2 ** tracks, ("a",)))
            self.assertEqual(behind(here, zeros), here)
            first = first_numbers(tracks, one)
            self.assertEqual(first is None, here == no_rows(2 ** tracks))
            for row in rows_up_to(2 ** tracks, 3):
                self.assertIs(fulfils(numbers_by(tracks, row), one), says(here, row))
            if first is not None:
                self.assertEqual(row_for(first), first_yes(here))
                self.assertTrue(fulfils(first, one))
            if tracks == 1:
                self.assert_numbers(one, here)
            else:
                # With some number put behind it: the track with the place value 2 is left out.
                self.assertEqual(reader_for(1, ("some", one)), with_zeros_left_out(image(here, 2, ("a", "b", "a", "b"))))

    def assert_numbers(self, formula, reader):
        fulfilling = [number for number in range(70) if fulfils((number,), formula)]
        for number in (0, 1, 33, 70):
            self.assertEqual(how_many_below(formula, number), len([one for one in fulfilling if one < number]))
        self.assertEqual([number for number in range(70) if says(reader, row_for((number,)))], fulfilling)
        most = greatest(formula)
        if most is not None:
            self.assertTrue(fulfils((most,), formula))
            self.assertEqual(how_many_below(formula, most + 1), how_many_below(formula, 10 ** 30))
        period = round_of_numbers(formula)
        if period is not None:
            step, begin = period
            for number in range(begin, begin + 40):
                self.assertIs(fulfils((number,), formula), fulfils((number + step,), formula))
            if begin:
                self.assertIsNot(fulfils((begin - 1,), formula), fulfils((begin - 1 + step,), formula))


class WaysTest(Case):
    def test_duels(self):
        chance = random.Random(411)
        for reader in readers_of_all_kinds(412, 60):
            lots = ["".join(sorted(chance.sample(LETTERS[:reader.signs], chance.randint(1, reader.signs)))) for _ in range(2)]
            turns, mine, others = least_turns(reader, *lots), plan(reader, *lots), barring(reader, *lots)
            self.assertIs(turns is None, mine is None)
            self.assertIs(turns is None, others is not None)
            self.assertIs(turns is None, 0 not in winning(reader, *lots)[0])
            self.assertEqual(certify_duel(reader, *lots)[0][0], "bars" if turns is None else "forces")
            if turns is not None:
                self.assertEqual(turns_of(reader, *lots, mine), turns)
            # All that matters is which rows have a yes row as a front.
            whole = behind(reader, all_rows(reader.signs))
            self.assertEqual(least_turns(whole, *lots), turns)

    def test_leading(self):
        for reader in readers_of_all_kinds(413, 60):
            full = filled(reader)
            row = reset_row(full)
            self.assertIs(row is None, fewest_left(full) > 1)
            self.assertEqual(first_yes(reset_rows(full)), row)
            self.assertEqual(certify_reset(full)[0][0], "parted" if row is None else "resets")
            stands = range(len(full))
            self.assertIs(row is not None, all(joins(full, one, other) for one in stands for other in stands))
            for one in stands:
                apart = [parting(full, one, other) for other in stands]
                for other in stands:
                    same = apart[other] is None
                    self.assertIs(same, rests_of(full, one) == rests_of(full, other))
                    if not same:
                        self.assertNotEqual(said_along(full, one, apart[other])[-1], said_along(full, other, apart[other])[-1])

    def test_without_end(self):
        chance = random.Random(414)
        for one, other in pairs_of_all_kinds(415, 25):
            here, there = watcher_of(one), watcher_of(other)
            joined, common, closing = either_loops(here, there), both_loops(here, there), closed(here)
            opposite = other_loops(here)
            self.assertTrue(same_loops(watcher_of(either(one, other)), joined))
            self.assertTrue(same_loops(watcher_of(least(one)), here))
            self.assertEqual(fronts_of(joined), either(fronts_of(here), fronts_of(there)))
            self.assertEqual(fronts_of(closing), fronts_of(here))
            for _ in range(20):
                start, loop = ["".join(chance.choice(LETTERS[:one.signs]) for _ in range(chance.randint(low, 4)))
                               for low in (0, 1)]
                is_met = watches(here, start, loop)
                size = len(loop) * (len(one) + 1)
                # By then stands come again and again.
                late = [start + (loop * 2 * size)[:at] for at in range(size, 2 * size)]
                self.assertIs(any(is_yes(one, front) for front in late), is_met)
                self.assertIs(watches(joined, start, loop), is_met or watches(there, start, loop))
                self.assertIs(watches(common, start, loop), is_met and watches(there, start, loop))
                self.assertIs(says(loops_behind(here, start), loop), is_met)
                if opposite is not None:
                    self.assertIsNot(watches(opposite, start, loop), is_met)
                if is_met:
                    self.assertTrue(watches(closing, start, loop))
                    self.assertTrue(says(fronts_of(here), start + loop * 3))


def rests_of(reader, stand):
    """The least reader of all rows that lead from a stand to an end, with this stand put first."""
    order = [stand] + [other for other in range(len(reader)) if other != stand]
    number = {other: at for at, other in enumerate(order)}
    arrows = tuple(tuple(number[goal] for goal in reader.arrows[other]) for other in order)
    return least(Reader(reader.signs, arrows, tuple(sorted(number[end] for end in reader.ends))))


class SideBySideTest(Case):
    def test_benches_logs_texts_console_and_shelf(self):
        chance = random.Random(416)
        for _ in range(12):
            signs = chance.choice([1, 2, 3])
            first = some_reader(chance, signs, chance.randint(1, 3))
            bench, console, shelf = Bench(first), Console(), Shelf()
            changes = 0
            for _ in range(40):
                line = self.some_line(chance, bench.reader)
                fewest = done(bench, line)
                text = reader_text(bench.reader)
                self.assertEqual(console.say(f"now = {text}"), text)
                shelf["now"] = reader_in(text)
                changes += 1
                self.assertEqual(console.shelf["now"], bench.reader)
                self.assertEqual(shelf["now"], bench.reader)
                self.assertEqual(console.say("now stands"), str(fewest))
                self.assertEqual((bench.fewest, bench.changes), (fewest, changes))
                self.assertEqual(len(certify_least(bench.reader)[0][1][1]), fewest)
                shelf.tried(lambda held: held.claim(("few", "now", fewest)))
                if fewest > 1:
                    self.fails(Broken, lambda: shelf.claim(("few", "now", fewest - 1)), index=0)
                row = first_yes(bench.reader)
                self.assertEqual(console.say("now first"), "none" if row is None else row or "-")
                self.assertIs(useful(bench.reader) == (), row is None)
                self.assertEqual(console.say("least = least now"), reader_text(least(bench.reader)))
                console.say("undo")
            again_led = played(first, bench.log)
            self.assertEqual((again_led.reader, again_led.log), (bench.reader, bench.log))
            while bench.changes:
                self.assertEqual(console.shelf["now"], bench.reader)
                bench.undo()
                again_led.undo()
                console.say("undo")
                shelf.undo()
                self.assertEqual(again_led.reader, bench.reader)
                self.assertEqual(shelf.names, ("now",) if bench.changes else ())
            self.assertEqual(bench.reader, first)
            self.assertEqual((console.shelf.changes, shelf.changes), (0, 0))

    def some_line(self, chance, reader):
        kind = chance.choice(["lead", "lead", "lead", "turn", "grow"] if len(reader) < 6 else ["lead", "turn"])
        stand, goal = chance.randrange(len(reader)), chance.choice(["-", *range(len(reader))])
        return {"lead": f"lead {stand} {chance.choice(LETTERS[:reader.signs])} {goal}", "turn": f"turn {stand}",
                "grow": "grow"}[kind]

    def test_made_by_console_and_by_hand(self):
        chance = random.Random(417)
        for one, other in pairs_of_all_kinds(418, 20):
            console = Console()
            console.say(f"one = {reader_text(one)}")
            console.say(f"two = {reader_text(other)}")
            for line, make in (("one both two", lambda: both(one, other)), ("two either one", lambda: either(one, other)),
                               ("one behind two", lambda: behind(one, other)), ("other one", lambda: other_rows(one)),
                               ("again two", lambda: again(other)), ("least one", lambda: least(one))):
                self.assertEqual(console.say(f"three = {line}"), reader_text(make()))
                row = "".join(chance.choice(LETTERS[:one.signs]) for _ in range(5))
                self.assertEqual(console.say(f"three reads {row}"), "yes" if says(make(), row) else "no")

    def test_what_is_too_much_everywhere(self):
        long_one, long_other = cycle(199, 2), cycle(200, 2)
        console = Console()
        console.say(f"one = {reader_text(long_one)}")
        console.say(f"two = {reader_text(long_other)}")
        for call in (lambda: both(long_one, long_other), lambda: console.say("x = one both two"),
                     lambda: behind(chain((150,)), chain((150,))), lambda: reader_from(guesser_of(long_one))):
            with self.assertRaises(TooMany) as caught:
                call()
            self.assertIn(caught.exception.limit, (12, 200))
        self.assertEqual(console.shelf.names, ("one", "two"))
