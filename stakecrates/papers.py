"""The house's papers: for each question the claim that is true, with a paper by which the checker takes it."""

from stakecrates.dealings import dealt
from stakecrates.elders import dealt_to, elder
from stakecrates.errors import Short
from stakecrates.evening import evened, fewest
from stakecrates.loads import Load
from stakecrates.rounds import least_room
from stakecrates.stores import lacks_of, least_start
from stakecrates.sums import sums_out


def paper_dealt(outs, backs):
    """That there is a dealing, with one; or that there is none, with the first BACK that is short."""
    try:
        dealing = dealt(outs, backs)
    except Short as short:
        return ("short", tuple(outs), tuple(backs), short.many), short.back
    return ("dealt", tuple(outs), tuple(backs)), dealing


def tightest(outs, backs):
    """The number of a BACK up to which most more came back than went out of these OUTS by then; None without any."""
    number = None
    most = 0
    came = 0
    for at, (day, many) in enumerate(backs):
        came += many
        more = came - sum([out[1] for out in outs if out[0] <= day])
        if more > most:
            number = at
            most = more
    return number


def paper_elder(outs, backs, day):
    """How many elder ones are out, with dealings by which it is so many, and the BACK that allows no more."""
    least, greatest = elder(outs, backs, day)
    newer = [out for out in outs if out[0] >= day]
    paper = (dealt_to(outs, backs, day, least), dealt_to(outs, backs, day, greatest), tightest(newer, backs))
    return ("elder", tuple(outs), tuple(backs), day, least, greatest), paper


def amounts_of(outs):
    """The unlike AMOUNTs above 0, rising."""
    return sorted({out[2] for out in outs if out[2] > 0})


def paper_most(outs, backs):
    """Which sum is out at most, with a dealing, and for each AMOUNT the BACK by which lesser ones were short."""
    least, most = sums_out(outs, backs)
    times = [tightest([out for out in outs if out[2] < amount], backs) for amount in amounts_of(outs)]
    return ("most", tuple(outs), tuple(backs), most), (dealt(outs, backs, "cheap"), tuple(times))


def paper_least(outs, backs):
    """Which sum is out at least, with a dealing, and for each AMOUNT the BACK by which no lesser ones were short."""
    least, most = sums_out(outs, backs)
    times = [tightest([out for out in outs if out[2] >= amount], backs) for amount in amounts_of(outs)]
    return ("least", tuple(outs), tuple(backs), least), (dealt(outs, backs, "dear"), tuple(times))


def row_that_lacks(rows, lacks, kind):
    """The number of a row up to whose day just so many of a kind lack."""
    days = [day for day, lack in lacks if kind in lack]
    return [row[0] for row in rows].index(days[0])


def paper_start(rows):
    """What must lie in a store at first, with a row for each kind up to whose day so many are needed."""
    kinds = least_start(rows).kinds()
    told = tuple([(day, load.kinds(), comes) for day, load, comes in rows])
    lacks = lacks_of(rows, Load())
    return ("start", told, kinds), tuple([row_that_lacks(rows, lacks, kind) for kind in kinds])


def paper_room(stops):
    """Which room a cart needs, with an order of which this is the need."""
    room, order = least_room(stops)
    return ("room", tuple(stops), room), order


def paper_evened(debts):
    """How much is moved where Debts are evened, with goings."""
    goings = evened(debts)
    return ("evened", debts.balances(), sum([much for payer, taker, much in goings])), goings


def paper_fewest(debts):
    """By how many goings Debts are evened, with as few as can be."""
    goings, groups = fewest(debts)
    return ("fewest", debts.balances(), len(goings)), goings
