"""The checker: whether a claim is true by its paper.

It imports its own parts alone, those that are called checker_.. too.
"""

from stakecrates.checker_deals import takes_dealt, takes_elder, takes_least, takes_most, takes_short
from stakecrates.checker_debts import takes_evened, takes_fewest
from stakecrates.checker_rounds import takes_room
from stakecrates.checker_stores import takes_start

CLAIMS = {"dealt": takes_dealt, "short": takes_short, "elder": takes_elder, "most": takes_most, "least": takes_least,
          "start": takes_start, "room": takes_room, "evened": takes_evened, "fewest": takes_fewest}


def holds(claim, paper):
    """Whether a claim is taken with its paper; both may be things of any kind."""
    if not isinstance(claim, tuple) or len(claim) == 0 or not isinstance(claim[0], str) or claim[0] not in CLAIMS:
        return False
    takes = CLAIMS[claim[0]]
    return takes(claim[1:], paper)
