"""The least numbers of deeds by which stretches of tokens become forms, and what is left of rows."""
from widestkind.healrows import FORMS, Grammar, fits_symbol, stand_in

# More than any number of deeds that is needed.
MUCH = 1000000


class Plan:
    """What is known of the rows whatever the tokens are: `order` has the numbers of the forms.

    By states but state 0: `lefts`, the state with one symbol less, and `heads`, the number of the first symbol's form,
    or -1 for a sort of tokens. `tokens` are the states that begin with a sort of tokens, and `cuts` those that begin
    with a form, as tuples of the form's number, the state with one symbol less, and the state.
    """

    def __init__(self, grammar):
        self.grammar = grammar
        self.order = {form: number for number, form in enumerate(grammar.firsts)}
        self.lefts = grammar.behind_state[1:]
        self.heads = [self.order.get(symbol, -1) for symbol in grammar.symbols[1:]]
        self.tokens = [state for state in range(1, len(grammar.symbols)) if not grammar.is_form(state)]
        pairs = list(enumerate(zip(self.heads, self.lefts)))
        self.cuts = [(head, left, index + 1) for index, (head, left) in pairs if head >= 0]
        self.fixed = [form in FORMS for form in grammar.firsts]
        self.least = None
        self.edges = []
        self.starts = []

    def learn(self, values):
        """Takes in to what the forms come for no tokens, so that forms can be found by those that they become.

        `edges` has tuples of a form, a form in a row of it, and to what the rest of the row comes for no tokens;
        `starts` has for each form the states of the ends of its rows, with what the rows come to ahead of them.
        """
        self.least = values
        edges = {}
        for form, place in self.order.items():
            starts = []
            for state in self.grammar.firsts[form]:
                row = self._row(state)
                weights = [1 if head < 0 else values[head] for _, head in row]
                for index, (one, head) in enumerate(row):
                    starts.append((one, sum(weights[:index])))
                    if head not in (-1, place):
                        cost = sum(weights) - weights[index]
                        edges[(place, head)] = min(cost, edges.get((place, head), cost))
            self.starts.append(starts)
        self.edges = [(place, head, cost) for (place, head), cost in edges.items()]

    def _row(self, state):
        """The list of the states of the ends of a row, with the numbers of the forms with which they begin."""
        found = []
        while state != 0:
            found.append((state, self.heads[state - 1]))
            state = self.lefts[state - 1]
        return found


class Costs:
    """The least numbers for stretches, each a list by forms or states at the index `begin * width + end`.

    `forms` has the numbers of the forms. `ahead` has those of what is left of rows, `placed` those of what is left
    behind a first token that has its place, so that only tokens that are left out may come before it. If `table` is a
    dict like a table of floors, the numbers of its forms are those of the dict.
    """

    def __init__(self, tokens, table):
        self.tokens = tokens
        self.width = len(tokens) + 1
        self.grammar = Grammar()
        self.plan = Plan(self.grammar)
        self.table = table
        self.forms = [None] * (self.width * self.width)
        self.ahead = [None] * (self.width * self.width)
        self.placed = [None] * (self.width * self.width)
        symbols = {self.grammar.symbols[state]: True for state in self.plan.tokens}
        self.fitting = {symbol: [fits_symbol(symbol, token) for token in tokens] for symbol in symbols}
        for begin in range(self.width):
            self._fill_empty(begin)
        for length in range(1, self.width):
            for begin in range(self.width - length):
                self._fill(begin, begin + length)

    def _given(self, begin, end):
        """The numbers of the forms of a stretch, as far as they are known from the outset."""
        if self.table is None:
            return [MUCH] * len(self.plan.fixed)
        return [self.table[(form, begin, end)] if form in FORMS else MUCH for form in self.plan.order]

    def _fill_empty(self, begin):
        """Finds the numbers of the stretch without tokens at a place."""
        at = begin * self.width + begin
        if self.plan.least is not None:
            self.forms[at], self.ahead[at], self.placed[at] = self.forms[0], self.ahead[0], self.placed[0]
            return
        values = self._given(begin, begin)
        direct = [MUCH] * len(self.plan.lefts)
        found = self._of_states(0, direct, values, values, None)
        while self._take_less(values, found):
            found = self._of_states(0, direct, values, values, None)
        self.forms[at] = values
        self.ahead[at] = found
        self.placed[at] = [MUCH, *[found[left] for left in self.plan.lefts]]
        if self.table is None:
            self.plan.learn(values)

    def _fill(self, begin, end):
        """Finds the numbers of a stretch, of which those of shorter ones are known."""
        at = begin * self.width + end
        direct = self._direct(begin, end)
        values = self._given(begin, end) if self.table is not None else self._values(direct)
        before = self.forms[begin * self.width + begin]
        behind = self.ahead[end * self.width + end]
        found = self._of_states(MUCH, direct, values, before, behind)
        while self.table is not None and self._take_less(values, found):
            found = self._of_states(MUCH, direct, values, before, behind)
        self.forms[at] = values
        self.ahead[at] = found
        inner = self.placed[at + self.width]
        placed = [MUCH] * len(found)
        for state in self.plan.tokens:
            one = 1 + inner[state]
            other = found[self.plan.lefts[state - 1]]
            placed[state] = one if one < other else other
        self.placed[at] = placed

    def _direct(self, begin, end):
        """The numbers of the states that take the first token, or a form for some tokens, but not all, first."""
        at = begin * self.width + end
        placed = self.placed[at + self.width]
        ahead = self.ahead[at + self.width]
        direct = [MUCH] * len(self.plan.lefts)
        symbols = self.grammar.symbols
        for state in self.plan.tokens:
            one = placed[state] if self.fitting[symbols[state]][begin] else 1 + placed[state]
            other = 1 + ahead[state]
            direct[state - 1] = one if one < other else other
        rows = []
        for middle in range(begin + 1, end):
            values = self.forms[begin * self.width + middle]
            left = self.ahead[middle * self.width + end]
            rows.append([values[head] + left[behind] for head, behind, _ in self.plan.cuts])
        if rows:
            best = [min(column) for column in zip(*rows)] if len(rows) > 1 else rows[0]
            for (_, _, state), cost in zip(self.plan.cuts, best):
                direct[state - 1] = cost
        return direct

    def _values(self, direct):
        """The numbers of the forms, of which one may be found by another one that is a row of it but for no tokens."""
        values = [min([direct[state - 1] + more for state, more in starts]) for starts in self.plan.starts]
        changed = True
        while changed:
            changed = False
            for form, inner, cost in self.plan.edges:
                if values[inner] + cost < values[form]:
                    values[form] = values[inner] + cost
                    changed = True
        return values

    def _of_states(self, nothing, direct, values, before, behind):
        """The numbers of the states of a stretch.

        `before` has those of the forms for no tokens ahead of it, `behind` those of the states for no tokens behind
        it; None if the stretch itself has no tokens.
        """
        found = [nothing]
        if behind is None:
            behind = found
        for head, left, cost in zip(self.plan.heads, self.plan.lefts, direct):
            if head < 0:
                least = found[left] + 1
            else:
                least = found[left] + before[head]
                whole = values[head] + behind[left]
                if whole < least:
                    least = whole
            found.append(cost if cost < least else least)
        return found

    def _take_less(self, values, found):
        """Lets the numbers of forms become less by those of states; returns whether one has."""
        changed = False
        for form, place in self.plan.order.items():
            best = min([found[state] for state in self.grammar.firsts[form]])
            if best < values[place] and (self.table is None or not self.plan.fixed[place]):
                values[place] = best
                changed = True
        return changed

    def cost(self, form, begin, end):
        """The least number of deeds by which a stretch becomes a form."""
        return self.forms[begin * self.width + end][self.plan.order[form]]

    def need(self, form, begin, end):
        """The least number to which the rows of a form come for a stretch."""
        found = self.ahead[begin * self.width + end]
        return min([found[state] for state in self.grammar.firsts[form]])


class Ways:
    """The ways in which stretches become forms with the least numbers of deeds.

    What becomes something is a tuple: `("form", form, begin, end)`, or `("ahead", state, begin, end)` and
    `("placed", state, begin, end)` as Costs tell. A choice is a tuple of deeds and of what comes behind them.
    """

    def __init__(self, costs):
        self.costs = costs
        self.grammar = costs.grammar

    def cost(self, what):
        """The least number of deeds."""
        sort, key, begin, end = what
        if sort == "form":
            return self.costs.cost(key, begin, end)
        at = begin * self.costs.width + end
        return self.costs.ahead[at][key] if sort == "ahead" else self.costs.placed[at][key]

    def choices(self, what):
        """The list of the choices that come to the least number of deeds."""
        found = []
        for deeds, inner in self._all_choices(what):
            if len(deeds) + sum([self.cost(one) for one in inner]) == self.cost(what):
                found.append((deeds, inner))
        return found

    def _all_choices(self, what):
        sort, key, begin, end = what
        if sort == "form":
            return [((), [("ahead", state, begin, end)]) for state in self.grammar.firsts[key]]
        if key == 0:
            return [((), [])]
        left = self.grammar.behind_state[key]
        if sort == "placed":
            found = [((), [("ahead", left, begin, end)])]
            if begin < end:
                found.append((((begin, "drop", ""),), [("placed", key, begin + 1, end)]))
            return found
        symbol = self.grammar.symbols[key]
        if self.grammar.is_form(key):
            pairs = [[("form", symbol, begin, cut), ("ahead", left, cut, end)] for cut in range(begin, end + 1)]
            return [((), pair) for pair in pairs]
        found = [(((begin, "put", stand_in(symbol)),), [("ahead", left, begin, end)])]
        if begin < end:
            fits = self.costs.fitting[symbol][begin]
            deeds = () if fits else ((begin, "swap", stand_in(symbol)),)
            found.append((deeds, [("placed", key, begin + 1, end)]))
            found.append((((begin, "drop", ""),), [("ahead", key, begin + 1, end)]))
        return found

    def first_way(self, what):
        """The list of the deeds of one way."""
        found = []
        waiting = [what]
        while waiting:
            deeds, inner = self.choices(waiting.pop())[0]
            found.extend(list(deeds))
            waiting.extend(inner[::-1])
        return found

    def all_ways(self, what, most):
        """The list of the tuples of the deeds of all ways, each once; None if there are more than so many."""
        known = {}
        waiting = [what]
        while waiting:
            one = waiting[-1]
            if one in known:
                waiting.pop()
                continue
            choices = self.choices(one)
            missing = [inner for _, inners in choices for inner in inners if inner not in known]
            if missing:
                waiting.extend(missing)
                continue
            known[one] = joined_ways(choices, known, most)
            if known[one] is None:
                return None
        return known[what]


def joined_ways(choices, known, most):
    """The list of the tuples of deeds of choices, of which the ways of what comes behind are known; or None."""
    found = {}
    for deeds, inner in choices:
        ways = {deeds: True}
        for one in inner:
            ways = {(*way, *further): True for way in ways for further in known[one]}
        for way in ways:
            found[way] = True
        if len(found) > most:
            return None
    return list(found)
