import unittest

from stakecrates import errors

FIELDS = {
    "StakeError": {
        "NoName": ["name"], "NoDay": ["day"], "NoAmount": ["amount"], "NoMany": ["many"], "NoRows": ["number"],
        "NoOuts": ["number"], "NoBacks": ["number"], "NoStakes": [], "NoLoad": [], "NoForm": [], "NoRule": ["rule"],
        "NoDealing": [], "NoDebts": [], "NoRules": [], "NoDeed": [], "NoText": ["row"], "NoRow": [],
    },
    "LackError": {
        "Lacks": ["load"], "LacksOn": ["day", "load"], "LacksAt": ["day", "house", "load"],
        "NotOut": ["day", "load"], "Short": ["back", "many"], "NoPlace": ["at"], "Empty": ["at"], "NoBack": [],
    },
    "FullError": {"Taken": ["at"], "TooMany": ["many"]},
}
OWN = {"StakeError": ValueError, "LackError": LookupError, "FullError": ArithmeticError}


class ErrorsTest(unittest.TestCase):
    def test_families(self):
        for family, own in OWN.items():
            self.assertEqual(getattr(errors, family).__bases__, (own,))

    def test_each_class_stands_under_its_family_alone(self):
        names = [name for classes in FIELDS.values() for name in classes]
        for family, classes in FIELDS.items():
            for name in classes:
                for other in list(FIELDS) + names:
                    under = issubclass(getattr(errors, name), getattr(errors, other))
                    self.assertEqual(under, other in (family, name), (name, other))
                for other, own in OWN.items():
                    self.assertEqual(issubclass(getattr(errors, name), own), other == family, (name, own))

    def test_no_class_stands_beside_those(self):
        told = {name for name, thing in vars(errors).items() if isinstance(thing, type)}
        self.assertEqual(told, set(FIELDS) | {name for classes in FIELDS.values() for name in classes})

    def test_fields_are_set_when_created(self):
        for classes in FIELDS.values():
            for name, fields in classes.items():
                things = [object() for field in fields]
                by_place = getattr(errors, name)(*things)
                by_name = getattr(errors, name)(**dict(zip(fields, things)))
                for wrong in (by_place, by_name):
                    self.assertEqual(list(vars(wrong)), fields)
                    for field, thing in zip(fields, things):
                        self.assertIs(getattr(wrong, field), thing)

    def test_message_never_fails(self):
        self.assertTrue(str(errors.NoDay(10 ** 5000)))
