"""The names of the interface: where they are defined, with which parameters; errors; who draws on whom."""

import ast
import importlib
import inspect
import pathlib
import unittest

from ringkiln import errors

PACKAGE = pathlib.Path(__file__).resolve().parent.parent / "ringkiln"

INTERFACE = {
    "kinds": "is_kind(thing) is_make(thing) is_pile(thing) pile_put(pile,other) pile_less(pile,many) "
             "course_heats(make,heat,many) load_behind(make,load,heats) drawn_as(make,load) stay_left(make,load) "
             "firing_heats(make,green) orders_that_fire(make,green)",
    "chambers": "is_chamber(make,thing) is_works(thing) empty_works(make,many) with_chamber(works,number,chamber) "
                "turned_works(works,by) mirror_works(works) bricks_in(works) test_holds(works,number,test) "
                "seen_from(works,number)",
    "draughts": "draught_from(works,number) all_draughts(works) stopped_by(works,number) in_draught(works,number) "
                "quiet(works) is_draught(works,thing) why_quiet(works,number) changed(works,changes) "
                "openings_for(works,number) is_openings(works,number,thing) lost_by(works,change) "
                "won_by(works,change)",
    "ticks": "air_through(heats) heats_before(heats,flue) marks_done(works) bare_tick(works) still_tick(works) "
             "tick_parts(works) is_bare_tick(works,thing) burners(works) kindled(works) fallen(works) "
             "heat_shares(works,number) torn_next(works) slag_next(works)",
    "deeds": "is_deed(thing) is_told(thing) can_do(works,deed) why_not(works,deed) done(works,deed) "
             "deeds_done(works,deeds) deeds_here(works,number) deed_turned(deed,by,many) undo_of(works,deed) "
             "either_order(works,one,other) doors_between(works,other)",
    "runs": "run(works,rules,told,stills,many) works_rows(works,rules,told,stills,many) "
            "heat_rows(works,rules,told,stills,many) ledger_rows(works,rules,told,stills,many) "
            "tops_after(works,rules,told,stills,many) as_told(works,rules,told,stills,many) "
            "told_turned(told,by,many) told_from(told,number) stills_from(stills,number)",
    "fires": "fires_of(works) fronts_of(works) is_out(works) fire_at(works,number) fire_rows(works,rules,told,many) "
             "is_fire_rows(works,rules,told,many,thing) kindled_at(works,rules,told,many) "
             "comes_to(works,rules,told,many,number) passes(works,rules,told,many,number) "
             "jumps(works,rules,told,many) goes_out(works,rules,told,many) cause_of(works,rules,told,many)",
}

ORDER = ["shapes", "errors", "kinds", "chambers", "draughts", "ticks", "deeds", "runs", "fires"]

ERRORS = {
    LookupError: {"NoChamber": ["number"], "NoKind": ["number"], "NoTick": ["number"], "NoRule": ["number"],
                  "NoChoice": ["number"], "NoWord": ["word"], "NothingDone": []},
    ValueError: {"Unfit": [], "NoPaper": [], "TooMany": [], "BadLine": ["number"]},
}


class Interface(unittest.TestCase):
    def test_every_name_stands_in_its_file_with_its_parameters(self):
        for module, text in INTERFACE.items():
            own = importlib.import_module("ringkiln." + module)
            for told in text.split():
                name, parameters = told.rstrip(")").split("(")
                with self.subTest(module=module, name=name):
                    function = getattr(own, name)
                    self.assertEqual(function.__module__, "ringkiln." + module)
                    self.assertEqual(list(inspect.signature(function).parameters), parameters.split(","))

    def test_a_file_draws_from_those_ahead_of_it(self):
        self.assertEqual(sorted(path.stem for path in PACKAGE.glob("*.py")), sorted(ORDER + ["__init__"]))
        for path in PACKAGE.glob("*.py"):
            for node in ast.walk(ast.parse(path.read_text())):
                if isinstance(node, ast.ImportFrom):
                    with self.subTest(file=path.name, module=node.module):
                        package, drawn = node.module.split(".")
                        self.assertEqual(package, "ringkiln")
                        self.assertLess(ORDER.index(drawn), ORDER.index(path.stem))


class Errors(unittest.TestCase):
    def test_each_is_a_direct_subclass_of_its_class_alone(self):
        for base, rows in ERRORS.items():
            for name in rows:
                with self.subTest(name=name):
                    self.assertEqual(getattr(errors, name).__bases__, (base,))
                    self.assertEqual(getattr(errors, name).__module__, "ringkiln.errors")

    def test_each_keeps_its_values(self):
        for rows in ERRORS.values():
            for name, attributes in rows.items():
                for value in (7, -3, "loud"):
                    with self.subTest(name=name, value=value):
                        values = [value] * len(attributes)
                        by_place = getattr(errors, name)(*values)
                        by_name = getattr(errors, name)(**dict(zip(attributes, values)))
                        for error in (by_place, by_name):
                            self.assertEqual(vars(error), dict(zip(attributes, values)))

    def test_each_wants_its_values(self):
        for rows in ERRORS.values():
            for name, attributes in rows.items():
                with self.subTest(name=name), self.assertRaises(TypeError):
                    getattr(errors, name)(*[1] * (len(attributes) + 1))

    def test_there_are_no_others(self):
        names = [name for name, value in vars(errors).items() if inspect.isclass(value)]
        self.assertEqual(sorted(names), sorted(name for rows in ERRORS.values() for name in rows))


if __name__ == "__main__":
    unittest.main()
