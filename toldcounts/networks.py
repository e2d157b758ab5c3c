"""Networks: nodes, and arcs along which whole numbers flow, each within its stretch.

An arc is a tuple (TAIL, HEAD, LOW, HIGH). More can flow along it as far as its HIGH lets, less as far as its LOW:
a step is a pair (ARC, SIGN), SIGN being 1 for more, which leads from the tail to the head, and -1 for less, which
leads back.
"""

# No stretch is wider than 4000.
_WIDEST = 4096


class Network:
    """A network, at first with the LOWs as flows."""

    def __init__(self, nodes, arcs):
        self._nodes = nodes
        self._arcs = list(arcs)
        self._flows = [arc[2] for arc in arcs]
        self._exits = [[] for _ in range(nodes)]
        for at, arc in enumerate(arcs):
            self._exits[arc[0]].append((at, 1, arc[1]))
            self._exits[arc[1]].append((at, -1, arc[0]))

    def flows(self):
        """What flows along each arc."""
        return list(self._flows)

    def take(self, flows):
        """Takes these flows, of which as much leaves each node as comes in."""
        self._flows = list(flows)

    def bound(self, at, low, high):
        """Gives an arc another stretch."""
        self._arcs[at] = (self._arcs[at][0], self._arcs[at][1], low, high)

    def hold(self, at):
        """Keeps the flow along an arc as it is."""
        self.bound(at, self._flows[at], self._flows[at])

    def spare(self, step):
        """How often the step can be done."""
        at, sign = step
        if sign > 0:
            return self._arcs[at][3] - self._flows[at]
        return self._flows[at] - self._arcs[at][2]

    def _do(self, steps, times):
        for at, sign in steps:
            self._flows[at] += sign * times

    def _reached(self, starts, barred):
        """The nodes that steps lead to from these ones, nearest first: for each, the last step and where it begins.

        No step goes along the barred arc.
        """
        found = {node: None for node in starts}
        queue = list(starts)
        done = 0
        while done < len(queue):
            node = queue[done]
            done += 1
            for at, sign, beyond in self._exits[node]:
                if beyond not in found and at != barred and self.spare((at, sign)) > 0:
                    found[beyond] = ((at, sign), node)
                    queue.append(beyond)
        return found

    def _surplus(self):
        """For each node, how much more comes in than leaves."""
        found = [0] * self._nodes
        for at, arc in enumerate(self._arcs):
            found[arc[0]] -= self._flows[at]
            found[arc[1]] += self._flows[at]
        return found

    def settle(self):
        """Lets as much leave each node as comes in; returns [].

        If that cannot be, returns nodes into which more flows at least than can leave them.
        """
        while True:
            surplus = self._surplus()
            reached = self._reached([node for node, much in enumerate(surplus) if much > 0], None)
            goals = [node for node in reached if surplus[node] < 0]
            if not goals:
                return list(reached)
            start, steps = _way_back(reached, goals[0])
            times = min([self.spare(step) for step in steps])
            self._do(steps, min(times, surplus[start], -surplus[goals[0]]))

    def ring_with(self, at, sign):
        """The steps of a shortest ring with this one, each of which can be done; [] if there is none."""
        start, goal = self._arcs[at][1], self._arcs[at][0]
        if sign < 0:
            start, goal = goal, start
        if self.spare((at, sign)) == 0:
            return []
        reached = self._reached([start], at)
        if goal not in reached:
            return []
        _, steps = _way_back(reached, goal)
        return [*steps, (at, sign)]

    def end_of(self, at, sign):
        """Lets as much (sign 1) or as little (sign -1) as can be flow along an arc of a settled network."""
        ring = self.ring_with(at, sign)
        while ring:
            self._do(ring, min([self.spare(step) for step in ring]))
            ring = self.ring_with(at, sign)
        return self._flows[at]

    def range_of(self, at):
        """The least and the greatest number that can flow along an arc of a settled network."""
        low = self.end_of(at, -1)
        return (low, self.end_of(at, 1))

    def most_worth(self, worths):
        """The greatest sum of worths that flows in a settled network can have, each arc having its worth of 1."""
        often = _WIDEST
        while often > 0:
            ring = self._better_ring(worths, often)
            if ring:
                self._do(ring, min([self.spare(step) for step in ring]))
            else:
                # Wide rings come first: without that, narrow ones can come to be done very often.
                often //= 2
        return sum([worth * self._flows[at] for at, worth in enumerate(worths)])

    def _better_ring(self, worths, often):
        """The steps of a ring that is worth more than nothing and can be done so often, [] if there is none."""
        best = [0] * self._nodes
        before = [None] * self._nodes
        for _ in range(self._nodes):
            last = self._better_round(worths, often, best, before)
            if last is None:
                return []
        # What still becomes better now comes from a ring: far enough back, all steps are on it.
        for _ in range(self._nodes):
            last = before[last][1]
        step, node = before[last]
        steps = [step]
        while node != last:
            step, node = before[node]
            steps.append(step)
        return steps

    def _better_round(self, worths, often, best, before):
        """Betters the ways to all nodes by one more step; returns a node with a better way, None if there is none."""
        last = None
        for node in range(self._nodes):
            for at, sign, beyond in self._exits[node]:
                worth = best[node] + sign * worths[at]
                if worth > best[beyond] and self.spare((at, sign)) >= often:
                    best[beyond] = worth
                    before[beyond] = ((at, sign), node)
                    last = beyond
        return last


def _way_back(reached, goal):
    """Where the way to a reached node begins, and its steps."""
    steps = []
    node = goal
    while reached[node] is not None:
        step, node = reached[node]
        steps.append(step)
    return (node, steps)
