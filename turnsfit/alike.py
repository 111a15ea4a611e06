"""States, or whatever else goes on to others, put together where nothing tells them apart."""


def numbered(keys):
    """List a number for each key: equal keys have one, in the order in which they first come."""
    numbers = {}
    for key in keys:
        if key not in numbers:
            numbers[key] = len(numbers)
    return [numbers[key] for key in keys]


def parted(kinds, nexts):
    """List a class for each state: the fewest classes that keep unlike kinds apart, and go on to classes."""
    classes = numbered(kinds)
    many = 0
    while many < max(classes, default=-1) + 1:
        many = max(classes) + 1
        classes = numbered([(classes[at],) + tuple([classes[other] for other in nexts[at]])
                            for at in range(len(classes))])
    return classes


def firsts_of(classes):
    """List, for each class, the first state of it."""
    firsts = []
    for at, number in enumerate(classes):
        if number == len(firsts):
            firsts.append(at)
    return firsts


def column_classes(rows):
    """List a class for each column of rows as long as there are rows: equal columns are of one class."""
    return numbered([tuple([row[at] for row in rows]) for at in range(len(rows))])
