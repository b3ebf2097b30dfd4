"""The cheapest plan under which no two whole runs that are alike differ by too much."""

from fitruns.counters import check_counters, rows_over
from fitruns.errors import BadPrices, TooMany
from fitruns.forms import is_integer, is_integer_within, is_row
from fitruns.pairs import Pairs
from fitruns.questions import check_most, check_question
from fitruns.records import check_lengths, is_plan
from fitruns.twins import are_twins, gained, go_apart, how_far_apart


def _kinds_of(counters):
    """All kinds on which a counter can be put, ascending."""
    return tuple(sorted({kind for able, _ in counters for kind in able}))


def _is_price(value):
    return is_row(value, 2) and is_integer_within(value[1], 0, 99)


def _check_prices(counters, prices):
    if not isinstance(prices, tuple) or not all([_is_price(part) for part in prices]):
        raise BadPrices(prices)
    if tuple([kind for kind, _ in prices]) != _kinds_of(counters):
        raise BadPrices(prices)


def _check_number(counters, lengths):
    """Raise TooMany if there are more than 256 plans with these lengths."""
    settings = 1
    for able, _ in counters:
        settings *= len(able) + 1
    number = 1
    for _ in lengths:
        number *= settings
    if number > 256:
        raise TooMany(number)


def _is_covered(plan, other):
    """Whether the plan is the other one, or coarser."""
    turns = [(setting, finer) for (_, setting), (_, finer) in zip(plan, other)]
    kinds = [pair for setting, finer in turns for pair in zip(setting, finer)]
    return all([kind is None or kind == more for kind, more in kinds])


class Choice:
    """What a plan is chosen for, and by what prices; checks what it is passed."""

    def __init__(self, program, counters, lengths, prices, question, most):
        check_counters(counters)
        check_lengths(lengths)
        _check_prices(counters, prices)
        check_question(question)
        check_most(most)
        _check_number(counters, lengths)
        self._program = program
        self._counters = counters
        self._lengths = lengths
        self._prices = {kind: price for kind, price in prices}
        self._question = question
        self._most = most

    def cost(self, plan):
        """What the plan costs."""
        return sum([self._prices[kind] for _, setting in plan for kind in setting if kind is not None])

    def plans(self):
        """A list of all plans with these lengths: what costs less comes ahead, of the same cost what is less."""
        settings = rows_over([(None,) + able for able, _ in self._counters])
        plans = rows_over([[(length, setting) for setting in settings] for length in self._lengths])
        # They ascend so far, and sorting keeps the order of those with the same cost.
        return sorted(plans, key=lambda plan: self.cost(plan))

    def is_among_plans(self, value):
        """Whether any value is a plan with these lengths."""
        return is_plan(self._counters, value) and tuple([length for length, _ in value]) == self._lengths

    def pairs(self, plan):
        """The pair states under a plan."""
        return Pairs(self._program, self._counters, plan, self._question)

    def proves(self, pairs, value):
        """Whether any tuple, behind the plan of these pairs in a row, shows that this plan is not good."""
        if is_row(value, 4):
            return go_apart(pairs, value[0], value[1], value[2], value[3])
        if not is_row(value, 2) or not are_twins(pairs, value[0], value[1]):
            return False
        return gained(pairs, value[0], value[1]) > self._most

    def found_proof(self, pairs):
        """A tuple that shows that the plan of these pairs is not good, None if it is good."""
        told = how_far_apart(pairs)
        if told[0] == "grows":
            return told[1:]
        return told[2:4] if told[0] == "most" and told[1] > self._most else None


def cheapest(program, counters, lengths, prices, question, most):
    """("plan", price, plan, rows) with the cheapest good plan, or ("none", rows); a row for each plan ahead of it."""
    choice = Choice(program, counters, lengths, prices, question, most)
    rows, proofs = [], []
    for plan in choice.plans():
        pairs = choice.pairs(plan)
        # Twins under one plan are often alike under the next one, and far sooner tried than found.
        known = [proof for proof in proofs if choice.proves(pairs, proof)]
        proof = known[0] if known else choice.found_proof(pairs)
        if proof is None:
            return ("plan", choice.cost(plan), plan, tuple(rows))
        if not known:
            proofs.append(proof)
        rows.append((plan,) + proof)
    return ("none", tuple(rows))


def _are_rows(choice, value):
    if not isinstance(value, tuple) or not all([isinstance(row, tuple) and len(row) > 0 for row in value]):
        return False
    return all([choice.is_among_plans(row[0]) and choice.proves(choice.pairs(row[0]), row[1:]) for row in value])


def _cover_all(plans, rows):
    return all([any([_is_covered(plan, row[0]) for row in rows]) for plan in plans])


def _shows_the_cheapest(choice, value):
    """Whether any value is ("plan", ..) or ("none", ..) and shows it."""
    plans = choice.plans()
    if is_row(value, 2) and value[0] == "none":
        return _are_rows(choice, value[1]) and _cover_all(plans, value[1])
    if not is_row(value, 4) or value[0] != "plan":
        return False
    _, price, plan, rows = value
    if not is_integer(price) or not choice.is_among_plans(plan) or price != choice.cost(plan):
        return False
    if not _are_rows(choice, rows) or not _cover_all(plans[:plans.index(plan)], rows):
        return False
    return choice.found_proof(choice.pairs(plan)) is None


def shows_cheapest(program, counters, lengths, prices, question, most, value):
    """Whether any value is what cheapest may tell, and shows it."""
    return _shows_the_cheapest(Choice(program, counters, lengths, prices, question, most), value)
