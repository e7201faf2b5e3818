"""All refusals: three families, each refusal under one of them alone."""


class StakeError(ValueError):
    """What was handed in is not what it must be."""


class NoName(StakeError):
    """A name was asked for."""

    def __init__(self, name):
        super().__init__("not one to six small letters")
        self.name = name


class NoDay(StakeError):
    """A day was asked for."""

    def __init__(self, day):
        super().__init__("not a whole number from 0 to 9999")
        self.day = day


class NoAmount(StakeError):
    """An amount in pence was asked for."""

    def __init__(self, amount):
        super().__init__("not a whole number from 0 to 9999")
        self.amount = amount


class NoMany(StakeError):
    """A number within what can be was asked for."""

    def __init__(self, many):
        super().__init__("not a whole number within what can be")
        self.many = many


class NoRows(StakeError):
    """Rows were asked for; `number` is that of the first wrong one, None of what is no row."""

    def __init__(self, number):
        super().__init__("not rows as they must be")
        self.number = number


class NoOuts(StakeError):
    """OUTS were asked for; `number` is as in NoRows."""

    def __init__(self, number):
        super().__init__("not rows of bottles that went out")
        self.number = number


class NoBacks(StakeError):
    """BACKS were asked for; `number` is as in NoRows."""

    def __init__(self, number):
        super().__init__("not rows of bottles that came back")
        self.number = number


class NoStakes(StakeError):
    """Stakes were asked for."""


class NoLoad(StakeError):
    """A Load was asked for."""


class NoForm(StakeError):
    """The width and the depth of a Crate were asked for."""


class NoRule(StakeError):
    """A rule of dealing was asked for."""

    def __init__(self, rule):
        super().__init__("not a rule of dealing")
        self.rule = rule


class NoDealing(StakeError):
    """A dealing was asked for."""


class NoDebts(StakeError):
    """Debts were asked for."""


class NoRules(StakeError):
    """RULES of a yard were asked for."""


class NoDeed(StakeError):
    """A deed of a ledger was asked for."""


class NoText(StakeError):
    """A told text was asked for; `row` is the number of the first wrong line."""

    def __init__(self, row):
        super().__init__("not a text that is told of such a thing")
        self.row = row


class NoRow(StakeError):
    """A row of words for the desk was asked for."""


class LackError(LookupError):
    """Something that is needed isn't there."""


class Lacks(LackError):
    """A Load has less than is taken off it, by `load`."""

    def __init__(self, load):
        super().__init__("less is there than is taken off")
        self.load = load


class LacksOn(LackError):
    """A store has less on `day` than goes, by `load`."""

    def __init__(self, day, load):
        super().__init__("less lies in the store than goes")
        self.day = day
        self.load = load


class LacksAt(LackError):
    """The store of `house` has less on `day` than goes, by `load`."""

    def __init__(self, day, house, load):
        super().__init__("less lies in the store of a house than goes")
        self.day = day
        self.house = house
        self.load = load


class NotOut(LackError):
    """More came back by `day` than went out, by `load`."""

    def __init__(self, day, load):
        super().__init__("more came back than went out")
        self.day = day
        self.load = load


class Short(LackError):
    """Up to the BACK of this number `many` more came back than went out."""

    def __init__(self, back, many):
        super().__init__("more came back than went out by then")
        self.back = back
        self.many = many


class NoPlace(LackError):
    """A Crate has no such place."""

    def __init__(self, at):
        super().__init__("no such place")
        self.at = at


class Empty(LackError):
    """The place of a Crate has no bottle."""

    def __init__(self, at):
        super().__init__("no bottle in this place")
        self.at = at


class NoBack(LackError):
    """No entry is left to be taken back."""


class FullError(ArithmeticError):
    """There is no room for more."""


class Taken(FullError):
    """The place of a Crate has a bottle."""

    def __init__(self, at):
        super().__init__("a bottle in this place")
        self.at = at


class TooMany(FullError):
    """There are more than can be."""

    def __init__(self, many):
        super().__init__("more than can be")
        self.many = many
