"""Graphs: dicts of a node and its list of ways on, (next node, mark)."""

from selfkits.shapes import is_ascending


def graph_from(starts, leads):
    """Return the graph of some nodes and all that ways lead to, breadth first; leads tells a node's ways on."""
    graph = {}
    row = starts
    while len(row) > 0:
        for node in row:
            graph[node] = leads(node)
        # A dict keeps each node once, in the sequence in which they are met.
        row = list({later: True for node in row for later, _ in graph[node] if later not in graph})
    return graph


def ended(graph):
    """Return the list of the nodes of which all rows end, each behind all its next nodes."""
    many = {node: len(graph[node]) for node in graph}
    backs = _backs_of(graph)
    found = [node for node in graph if many[node] == 0]
    at = 0
    while at < len(found):
        here = found[at]
        for node in backs[here]:
            many[node] -= 1
            if many[node] == 0:
                found.append(node)
        at += 1
    return found


def lasting(graph):
    """Return the dict of the nodes with a row without end, in the graph's sequence, with their ways to such ones."""
    ends = {node: True for node in ended(graph)}
    return {node: [way for way in graph[node] if way[0] not in ends] for node in graph if node not in ends}


def numbered(graph):
    """Return the dict of the nodes of which all rows end, each with the length of its longest row."""
    numbers = {}
    for node in ended(graph):
        numbers[node] = max([numbers[later] + 1 for later, _ in graph[node]], default=0)
    return numbers


def is_numbering(paper, starts, leads):
    """Tell whether a paper, a tuple of (node, number), shows that all rows from some nodes on end.

    It has to ascend, with each node once, the starts among them, and numbers from 0 on; leads tells the next nodes of
    a node, None of what is none: they have to stand there with lesser numbers.
    """
    numbers = {node: number for node, number in paper}
    if not is_ascending(paper) or len(numbers) < len(paper):
        return False
    if not all([node in numbers for node in starts]):
        return False
    for node in numbers:
        nexts = leads(node)
        if nexts is None or numbers[node] < 0:
            return False
        if not all([later in numbers and numbers[later] < numbers[node] for later in nexts]):
            return False
    return True


def looped(lasts, start):
    """Return (ahead, ring), tuples of the marks of a row without end from a node of what `lasting` returns."""
    places = {}
    marks = []
    here = start
    while here not in places:
        places[here] = len(marks)
        here, mark = lasts[here][0]
        marks.append(mark)
    first = places[here]
    return (tuple(marks[:first]), tuple(marks[first:]))


def turned_about(graph):
    """Return the graph of the same nodes whose ways, without marks, lead back."""
    backs = _backs_of(graph)
    return {node: [(ahead, None) for ahead in backs[node]] for node in backs}


def _backs_of(graph):
    """Return the dict of the nodes, each with a list of the nodes from which ways lead to it."""
    backs = {node: [] for node in graph}
    for node in graph:
        for later, _ in graph[node]:
            backs[later].append(node)
    return backs
