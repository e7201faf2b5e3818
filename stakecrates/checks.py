"""Refusals of arguments that are no name, no day, no amount or no row."""

from stakecrates.errors import NoAmount, NoDay, NoName, NoRows
from stakecrates.names import is_amount, is_day, is_name, is_row


def check_name(name):
    """Refuse what is no name."""
    if not is_name(name):
        raise NoName(name)


def check_day(day):
    """Refuse what is no day."""
    if not is_day(day):
        raise NoDay(day)


def check_amount(amount):
    """Refuse what is no amount."""
    if not is_amount(amount):
        raise NoAmount(amount)


def check_row(rows):
    """Refuse what is no row at all; what stands in it is not looked at."""
    if not is_row(rows):
        raise NoRows(None)


def check_rows(rows, is_right):
    """Refuse what is no row, or has something in it that isn't right."""
    check_row(rows)
    for number, row in enumerate(rows):
        if not is_right(row):
            raise NoRows(number)
