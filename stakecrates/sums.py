"""Which sum is still out, at least and at most, and which is given back with each BACK."""

from stakecrates.dealings import dealt, sum_back


def sums_out(outs, backs):
    """(LEAST, GREATEST) of the sum of all AMOUNTs that are still out behind all BACKS."""
    # What is there for one BACK is there for all behind it, so no sum is lost by taking the dearest, or cheapest, now.
    most_back = sum_back(outs, backs, dealt(outs, backs, "dear"))
    least_back = sum_back(outs, backs, dealt(outs, backs, "cheap"))
    went = sum([many * amount for day, many, amount in outs])
    return went - most_back, went - least_back


def each_back(outs, backs, by=None):
    """The sum that is given back with each BACK, dealt by a rule."""
    dealing = dealt(outs, backs, by)
    given = [0] * len(backs)
    for back, out, many in dealing:
        given[back] += many * outs[out][2]
    return tuple(given)
