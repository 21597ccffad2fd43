"""Forces of the greatest worth, found as a flow that is sent along shortest paths.

A bound is a thread whose flow is its force; a pull is a thread whose flow is its force with the other sign.
Flow on a thread from start to end gains its gap for each unit. The forces are balanced if, at each unknown,
as much flow comes in as goes out. They support heights if every thread that could have more flow has at
least its gap as its length, and every thread that could have less flow has at most its gap.
"""


def best_forces(system, heights):
    """Return forces whose worth is the cost of the best heights; the heights given keep all bounds."""
    flow = Flow(system, heights)
    while flow.has_excess():
        flow.send()
    many = len(system[1])
    pull_forces = tuple([-amount for amount in flow.amounts[many:]])
    return (pull_forces, tuple(flow.amounts[:many]))


def supporting_bounds(system, forces):
    """Return the bounds that are kept by just those heights that the forces support.

    Each one is given with the word and the number of the bound or pull from which it comes.
    """
    pull_forces, bound_forces = forces
    found = []
    for number, (start, end, gap) in enumerate(system[1]):
        found.append(((start, end, gap), "bound", number))
        if bound_forces[number] > 0:
            found.append(((end, start, -gap), "bound", number))
    for number, (start, end, gap, weight) in enumerate(system[2]):
        if pull_forces[number] > -weight:
            found.append(((start, end, gap), "pull", number))
        if pull_forces[number] < weight:
            found.append(((end, start, -gap), "pull", number))
    return found


class Flow:
    """A flow that always supports its heights, but is not balanced yet."""

    def __init__(self, system, heights):
        count, bounds, pulls = system
        # Never more flow is sent than the pulls give at first, so this is as good as no limit.
        plenty = 1 + sum([pull[3] for pull in pulls])
        self.threads = [(start, end, gap, 0, plenty) for start, end, gap in bounds]
        self.threads.extend([(start, end, gap, -weight, weight) for start, end, gap, weight in pulls])
        self.heights = list(heights)
        self.amounts = [self.first_amount(thread) for thread in self.threads]
        self.excess = [0] * count
        for thread, amount in zip(self.threads, self.amounts):
            self.excess[thread[0]] -= amount
            self.excess[thread[1]] += amount

    def slack(self, thread):
        """Return by how much the length of a thread is greater than its gap."""
        return self.heights[thread[1]] - self.heights[thread[0]] - thread[2]

    def first_amount(self, thread):
        """Return the flow that a thread must have at the first heights."""
        slack = self.slack(thread)
        if slack > 0:
            return thread[3]
        if slack < 0:
            return thread[4]
        return 0

    def has_excess(self):
        """Tell whether more flow comes in than goes out somewhere."""
        return any([amount > 0 for amount in self.excess])

    def onward_steps(self):
        """Return for each unknown the steps by which flow can be sent on from it.

        A step is (target, length, number, sign, room): more or less flow on the thread with this number.
        """
        found = [[] for _ in self.excess]
        for number, thread in enumerate(self.threads):
            start, end, _, low, high = thread
            amount = self.amounts[number]
            slack = self.slack(thread)
            if amount < high:
                found[start].append((end, slack, number, 1, high - amount))
            if amount > low:
                found[end].append((start, -slack, number, -1, amount - low))
        return found

    def send(self):
        """Send flow from where it is too much to the nearest unknown where it is too little."""
        search = Search(self.excess, self.onward_steps())
        goal = search.run()
        reach = search.distances[goal]
        for at in range(len(self.heights)):
            distance = search.distances[at]
            self.heights[at] -= reach if distance is None else min(distance, reach)
        path = search.path_to(goal)
        source = path[-1][0]
        amount = min([step[4] for _, step in path] + [self.excess[source], -self.excess[goal]])
        for _, step in path:
            self.amounts[step[2]] += step[3] * amount
        self.excess[source] -= amount
        self.excess[goal] += amount


class Search:
    """A search for the shortest path from any unknown with an excess to one with the opposite."""

    def __init__(self, excess, steps):
        self.excess = excess
        self.steps_from = steps
        self.distances = [0 if amount > 0 else None for amount in excess]
        self.came = [None] * len(excess)
        self.settled = [False] * len(excess)

    def run(self):
        """Settle unknowns from near to far, until one is reached that has too little flow; return it."""
        at = self.nearest()
        while self.excess[at] >= 0:
            self.settle(at)
            at = self.nearest()
        return at

    def nearest(self):
        """Return the nearest unknown that is reached and not yet settled."""
        best = None
        for at, distance in enumerate(self.distances):
            if distance is not None and not self.settled[at]:
                if best is None or distance < self.distances[best]:
                    best = at
        return best

    def settle(self, at):
        """Go on from an unknown whose distance is final."""
        self.settled[at] = True
        for step in self.steps_from[at]:
            target = step[0]
            distance = self.distances[at] + step[1]
            if self.distances[target] is None or distance < self.distances[target]:
                self.distances[target] = distance
                self.came[target] = (at, step)

    def path_to(self, goal):
        """Return the pairs (unknown, step) that lead to the goal, the last one first."""
        path = []
        at = goal
        while self.came[at] is not None:
            path.append(self.came[at])
            at = self.came[at][0]
        return path
