"""Members that are joined step by step: for each one the least that it hangs together with."""


def unjoined(n):
    """The least members where each of n hangs together with itself alone."""
    return list(range(n))


def joined(leasts, members):
    """The least members when these members hang together, too."""
    told = [leasts[member] for member in members]
    least = min(told)
    return [least if other in told else other for other in leasts]
