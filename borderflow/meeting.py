"""What loses nothing: pairs of unlike rings of one length that become the same ring."""

from borderflow.basics import check_limit, power_of
from borderflow.pairgraph import is_unlike, longest_walks, steps_between, turned, word_count
from borderflow.words import indexed_word, is_ring


def meeting_rings(rule):
    """The least meeting pair, None if the rule loses nothing."""
    check_limit("pairs", power_of(rule.signs, 2 * (rule.width - 1)))
    if rule.width == 1:
        return meeting_signs(rule)
    count = word_count(rule)
    steps = lasting_steps(steps_between(rule))
    points = [point for point, afters in enumerate(steps) if afters != [] and is_unlike(point, count)]
    if points == []:
        return None
    return least_rings(rule, steps, least_length(steps, points))


def loses_nothing(rule):
    """Whether unlike rows become unlike rows."""
    return meeting_rings(rule) is None


def rings_meet(rule, one, other):
    """Whether any two values are unlike rings of one length that become the same ring."""
    if not is_ring(one, rule.signs) or not is_ring(other, rule.signs):
        return False
    if len(one) != len(other) or one == other:
        return False
    return rule.ring_step(one) == rule.ring_step(other)


def meeting_signs(rule):
    """The least meeting pair of a rule that looks at one cell."""
    for one in range(rule.signs):
        for other in range(one + 1, rule.signs):
            if rule.table[one] == rule.table[other]:
                return (one,), (other,)
    return None


def lasting_steps(steps):
    """The steps between points that have walks without end both ahead of them and behind them.

    The rule loses something exactly if two unlike words are such a point.
    """
    ahead = longest_walks(turned(steps))
    behind = longest_walks(steps)
    lasting = [ahead[point] is None and behind[point] is None for point in range(len(steps))]
    return [
        [after for after in afters if lasting[after]] if lasting[point] else []
        for point, afters in enumerate(steps)
    ]


def least_length(steps, points):
    """The least number of steps after which a walk comes back to one of these points."""
    least = len(steps)
    for point in points:
        length = round_length(steps, point, least)
        if length is not None:
            least = length
    return least


def round_length(steps, start, most):
    """The least number of steps below this one after which a walk comes back to its start, None if there is none."""
    seen = {}
    points = [start]
    for length in range(1, most):
        reached = []
        for point in points:
            for after in steps[point]:
                if after not in seen:
                    seen[after] = True
                    reached.append(after)
        if start in seen:
            return length
        points = reached
    return None


def least_rings(rule, steps, length):
    """The least meeting pair, if its length is known."""
    count = word_count(rule)
    marked = marked_steps(steps, count)
    befores = turned(marked)
    for one in range(count):
        pairs = []
        for other in range(count):
            rings = rings_through(rule, marked, befores, one * count + other, length)
            if rings is not None:
                pairs.append(rings)
        # the first words of rings go ahead of all that comes behind them
        if pairs != []:
            return min(pairs)
    return None


def marked_steps(steps, count):
    """The steps with each point twice: as it is until a walk has met unlike words, and so far behind from then on."""
    far = len(steps)
    unmarked = [[after + far if is_unlike(after, count) else after for after in afters] for afters in steps]
    return [*unmarked, *[[after + far for after in afters] for afters in steps]]


def rings_through(rule, marked, befores, point, length):
    """The least meeting pair of the least length whose walk starts at a point, None if there is none."""
    count = word_count(rule)
    goal = point + len(marked) // 2
    distances = distances_to(befores, goal, length)
    walks = {goal if is_unlike(point, count) else point: ((), ())}
    # no walk of this length can be made shorter, so each step leads one step nearer to the goal
    for left in range(length - 1, -1, -1):
        walks = longer_walks(rule, marked, walks, distances, left)
    if goal not in walks:
        return None
    ones, others = walks[goal]
    one = indexed_word(point // count, rule.width - 1, rule.signs) + ones
    other = indexed_word(point % count, rule.width - 1, rule.signs) + others
    return one[:length], other[:length]


def distances_to(befores, goal, most):
    """How many steps, at most this number, lead from points to the goal: a dict."""
    distances = {goal: 0}
    points = [goal]
    for distance in range(1, most + 1):
        reached = []
        for point in points:
            for before in befores[point]:
                if before not in distances:
                    distances[before] = distance
                    reached.append(before)
        points = reached
    return distances


def longer_walks(rule, marked, walks, distances, left):
    """The least signs of walks that are a step longer, for each point at this distance from the goal."""
    count = word_count(rule)
    far = len(marked) // 2
    found = {}
    for point, (ones, others) in walks.items():
        for after in marked[point]:
            if distances.get(after) == left:
                pair = after % far
                longer = ((*ones, pair // count % rule.signs), (*others, pair % count % rule.signs))
                if after not in found or longer < found[after]:
                    found[after] = longer
    return found
