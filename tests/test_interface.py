"""The names and arguments of the interface, and where its methods stand."""

import importlib
import inspect
import unittest

FUNCTIONS = {
    "names": ["is_name(thing)", "is_day(thing)"],
    "loads": ["in_order(loads, key=None)"],
    "texts": ["read_stakes(text)", "read_load(text)", "read_crate(text)"],
    "packing": ["packed(load, wide, deep, apart=False)"],
    "dealings": ["is_dealing(outs, backs, thing)", "dealt(outs, backs, by=None)", "sum_back(outs, backs, dealing)",
                 "left(outs, backs, dealing)"],
    "elders": ["elder(outs, backs, day)", "dealt_to(outs, backs, day, many)"],
    "sums": ["sums_out(outs, backs)", "each_back(outs, backs, by=None)"],
    "stores": ["in_store(rows, day, start=None)", "least_start(rows)"],
    "ledgers": ["is_deed(thing)", "is_ledger(thing)", "stands(ledger)", "out_on(ledger, origin, sort, day)",
                "store_on(ledger, house, day)"],
    "evening": ["evened(debts)", "fewest(debts)"],
    "money": ["is_rules(thing)", "account(rules, ledger, origin, sort)", "given_back(rules, ledger, origin, sort)",
              "debts_on(rules, ledger, day)"],
    "rounds": ["need(stops)", "least_room(stops)"],
    "checker": ["holds(claim, paper)"],
    "papers": ["paper_dealt(outs, backs)", "paper_elder(outs, backs, day)", "paper_most(outs, backs)",
               "paper_least(outs, backs)", "paper_start(rows)", "paper_room(stops)", "paper_evened(debts)",
               "paper_fewest(debts)"],
}
CLASSES = {
    "stakes": {"Stakes(rows=None)": ["stake(sort, day)", "changes(sort)", "sorts()", "put(sort, day, amount)"]},
    "loads": {"Load(rows=None)": [
        "many_of(house, sort)", "kinds()", "bottles()", "plus(other)", "less(other)", "within(other)",
        "part(house=None, sort=None)", "worth(stakes, day)"]},
    "crates": {"Crate(wide, deep, places=None)": [
        "places()", "bottle(at)", "filled(at, house, sort)", "emptied(at)", "inside()", "short_by()", "turned()",
        "worth(stakes, day, box=0)"]},
    "debts": {"Debts(rows=None)": ["owes(house, other)", "pairs()", "balances()", "plus(other)"]},
    "yards": {"Yard(rules)": [
        "enter(day, deed)", "undo()", "ledger()", "out(origin, sort, day)", "store(house, day)", "given(origin, sort)",
        "debts(day)", "elder(origin, sort, day)", "sums(origin, sort)"]},
    "desk": {"Desk(rules)": ["say(row)"]},
}


def module(name):
    return importlib.import_module("stakecrates." + name)


class InterfaceTest(unittest.TestCase):
    def test_functions(self):
        for name, functions in FUNCTIONS.items():
            for function in functions:
                word, mark, arguments = function.partition("(")
                made = getattr(module(name), word)
                self.assertEqual(str(inspect.signature(made)), mark + arguments, function)

    def test_classes_and_their_own_methods(self):
        for name, classes in CLASSES.items():
            for made, methods in classes.items():
                word, mark, arguments = made.partition("(")
                own = getattr(module(name), word)
                self.assertEqual(str(inspect.signature(own)), mark + arguments, made)
                for method in methods:
                    self.check_method(own, method)

    def check_method(self, own, method):
        word, mark, arguments = method.partition("(")
        told = "(self)" if arguments == ")" else "(self, " + arguments
        self.assertEqual(str(inspect.signature(vars(own)[word])), told, method)
