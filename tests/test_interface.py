"""The names of the interface: where they are defined, with which parameters; errors; who draws on whom."""

import ast
import importlib
import inspect
import pathlib
import unittest

from ringkiln import board, errors

PACKAGE = pathlib.Path(__file__).resolve().parent.parent / "ringkiln"

INTERFACE = {
    "kinds": "is_kind(thing) is_make(thing) is_pile(thing) pile_put(pile,other) pile_less(pile,many) "
             "course_heats(make,heat,many) load_behind(make,load,heats) drawn_as(make,load) stay_left(make,load) "
             "firing_heats(make,green) orders_that_fire(make,green)",
    "chambers": "is_chamber(make,thing) is_works(thing) empty_works(make,many) with_chamber(works,number,chamber) "
                "turned_works(works,by) mirror_works(works) bricks_in(works) test_holds(works,number,test) "
                "seen_from(works,number)",
    "draughts": "draught_from(works,number) all_draughts(works) stopped_by(works,number) in_draught(works,number) "
                "quiet(works) is_draught(works,thing) why_quiet(works,number) changed(works,changes) "
                "openings_for(works,number) is_openings(works,number,thing) lost_by(works,change) "
                "won_by(works,change)",
    "ticks": "air_through(heats) heats_before(heats,flue) marks_done(works) bare_tick(works) still_tick(works) "
             "tick_parts(works) is_bare_tick(works,thing) burners(works) kindled(works) fallen(works) "
             "heat_shares(works,number) torn_next(works) slag_next(works)",
    "deeds": "is_deed(thing) is_told(thing) can_do(works,deed) why_not(works,deed) done(works,deed) "
             "deeds_done(works,deeds) deeds_here(works,number) deed_turned(deed,by,many) undo_of(works,deed) "
             "either_order(works,one,other) doors_between(works,other)",
    "runs": "run(works,rules,told,stills,many) works_rows(works,rules,told,stills,many) "
            "heat_rows(works,rules,told,stills,many) ledger_rows(works,rules,told,stills,many) "
            "tops_after(works,rules,told,stills,many) as_told(works,rules,told,stills,many) "
            "told_turned(told,by,many) told_from(told,number) stills_from(stills,number)",
    "fires": "fires_of(works) fronts_of(works) is_out(works) fire_at(works,number) fire_rows(works,rules,told,many) "
             "is_fire_rows(works,rules,told,many,thing) kindled_at(works,rules,told,many) "
             "comes_to(works,rules,told,many,number) passes(works,rules,told,many,number) "
             "jumps(works,rules,told,many) goes_out(works,rules,told,many) cause_of(works,rules,told,many)",
    "rules": "is_rules(make,thing) acts_now(works,rules) ruled(works,rules) run_by(works,rules,many) "
             "used_at(works,rules,many,number) never_used(works,rules,many) without_rule(rules,number) "
             "with_rule(rules,number,rule) clash_of(works,rules,many) first_unlike(works,rules,other,many) "
             "lean_rules(works,rules,many) needless_tests(works,rules,many,number)",
    "steady": "is_steady(works,rules) steady_paper(works,rules) is_steady_paper(works,rules,thing) "
              "out_paper(works,rules) is_out_paper(works,rules,thing) far_works(works,rules,many) "
              "fronts_far(works,rules,many) round_ledger(works,rules) hottest_ever(works,rules) "
              "comes_seen(works,rules,other) rings_steady(works,filler,rules) least_ring(works,filler,rules) "
              "least_heat_for(works,rules,number)",
    "pairs": "apart(works) apart_row(works,rules,many) stay_two(works,rules) pair_paper(works,rules) "
             "is_pair_paper(works,rules,thing) lone_paper(works,rules) is_lone_paper(works,rules,thing) "
             "how_lone(works,rules) nearest_ever(works,rules) fires_for_ever(works,rules) "
             "one_draught(works,one,two) starved_row(works,rules,many) "
             "pair_works(make,pattern,filler,many,far) fars_that_stay(make,pattern,filler,many,rules) "
             "most_fires(make,pattern,filler,many,rules)",
    "keeping": "are_choices(thing) chosen_tick(works,rules,choices,number) seen_of(works) "
               "can_keep(works,rules,choices) kept_lot(works,rules,choices) "
               "is_kept_lot(works,rules,choices,thing) kept_by(works,rules,choices,lot,many) "
               "dies_within(works,rules,choices) death_list(works,rules,choices) "
               "is_death_list(works,rules,choices,thing) best_choice(works,rules,choices) "
               "best_row(works,rules,choices,many) least_choices(works,rules,choices)",
    "saving": "behind_takes(works,rules,choices,takes) saves_at(works,rules,choices,tick) "
              "last_save(works,rules,choices) safe_choices(works,rules,choices) saving_rows(works,rules,choices) "
              "first_mistake(works,rules,choices,takes) save_paper(works,rules,choices) "
              "is_save_paper(works,rules,choices,tick,thing) keeping(works,rules,choices) "
              "is_keeping(works,rules,choices,thing) rescue(works,rules,choices) "
              "is_rescue(works,rules,choices,thing) last_rescue(works,rules,choices)",
    "stills": "run_still(works,rules,stills,many) out_at(works,rules,stills,many) outlives(works,rules,stills,many) "
              "greatest_stills(works,rules,many) worst_stills(works,rules,most,many) "
              "is_killing(works,rules,most,many,thing) helped_by(works,rules,many) never_kills(works,rules,many) "
              "outlives_all(works,rules,most) outliving_list(works,rules,most) killing_stills(works,rules,most) "
              "is_outliving_list(works,rules,most,thing)",
    "back": "is_fault(n,thing) case_of(play,unknown,guess) run_with(case,rules,told,many) "
            "flue_row(case,rules,told,many) guesses_that_fit(play,unknown,readings) "
            "faults_that_fit(play,unknown,readings) starts_that_fit(play,unknown,readings) "
            "sure_fault(play,unknown,readings) sure_heat(play,unknown,readings,number,tick) "
            "heats_left(play,unknown,readings,number,tick) guesses_by_flue(play,unknown,row) "
            "misfit(play,unknown,readings) is_misfit(play,unknown,readings,thing)",
    "looks": "is_look(thing,n) shown_by(case,rules,told,look) parted_by(cases,rules,told,look) "
             "worth_of(cases,rules,told,look) best_look(cases,rules,told,looks) "
             "blind_pairs(cases,rules,told,looks) least_looks(cases,rules,told,looks) "
             "looks_needed(cases,rules,told,looks) looks_plan(cases,rules,told,looks,most) "
             "looks_doubt(cases,rules,told,looks,most) is_looks_plan(cases,rules,told,looks,most,thing) "
             "is_looks_doubt(cases,rules,told,looks,most,thing)",
    "accounts": "heat_account(play) is_account(play,thing) flue_by_place(play) burnt_row(play) air_gains(play) "
                "bricks_account(play) drawn_by_place(play) good_share(play) kinds_that_fire(play,number) "
                "slag_made(play) soft_drawn(play) least_pieces(play,number,strength,kind,good)",
    "repairs": "out_from(works,rules,number,long,many) loses_by(works,rules,repair,many) "
               "repaired_run(works,rules,repair,many) repair_at(works,rules,number,long,many) "
               "no_repair(works,rules,number,long,many) is_repair(works,rules,number,long,many,thing) "
               "is_no_repair(works,rules,number,long,many,thing) least_loss(works,rules,number,long,many) "
               "past_at(works,rules,repair,many) jump_room(works,rules,number,many) "
               "longest_jump(works,rules,many) put_out(works,rules,many)",
    "starts": "fails_at(works,rules,start,many) is_start(works,rules,many,thing) "
              "catches_at(works,rules,start,many) first_round(works,rules,start,many) "
              "least_wood(works,rules,number,many,most) start_paper(works,rules,number,many,most) "
              "is_start_paper(works,rules,number,many,most,thing) start_at(works,rules,many,most) "
              "start_rows(works,rules,number,many,long,most) wood_saved(works,rules,number,many,long,most)",
    "alike": "alike_rules(make,size,one,other) alike_sizes(make,one,other) parting_works(make,size,one,other) "
             "is_parting_works(make,size,one,other,thing) parting_places(make,size,one,other) "
             "places_round(rules,size) needed_rules(make,size,rules) order_free(make,size,rules) "
             "swaps_free(make,size,rules) first_unlike_tick(works,one,other) alike_from(works,one,other)",
    "judge": "is_claim(thing) is_so(claim) paper(claim) is_paper(claim,thing) shows(claim,thing) about(claim,rules) "
             "not_so(claims) turned_by(claims,rules)",
    "texts": "works_text(works) rules_text(rules) deeds_text(told) works_read(text) rules_read(text) deeds_read(text)",
    "desk": "is_request(line) replies(works,rules,text)",
}

# Those of the class Board, behind self.
METHODS = "__init__(works,rules) works_now() moves() do(move) lay(deed) go(many) undo() redo() fronts_now() " \
          "__eq__(other) __len__()"

ORDER = ["shapes", "errors", "kinds", "chambers", "draughts", "ticks", "deeds", "runs", "fires", "rules", "steady", "pairs",
         "keeping", "saving", "stills", "back", "looks", "accounts", "repairs", "starts", "alike", "judge", "texts", "board",
         "desk"]

ERRORS = {
    LookupError: {"NoChamber": ["number"], "NoKind": ["number"], "NoTick": ["number"], "NoRule": ["number"],
                  "NoChoice": ["number"], "NoWord": ["word"], "NothingDone": []},
    ValueError: {"Unfit": [], "NoPaper": [], "TooMany": [], "BadLine": ["number"]},
}


class Interface(unittest.TestCase):
    def test_every_name_stands_in_its_file_with_its_parameters(self):
        for module, text in INTERFACE.items():
            own = importlib.import_module("ringkiln." + module)
            for told in text.split():
                name, parameters = told.rstrip(")").split("(")
                with self.subTest(module=module, name=name):
                    function = getattr(own, name)
                    self.assertEqual(function.__module__, "ringkiln." + module)
                    self.assertEqual(list(inspect.signature(function).parameters), parameters.split(","))

    def test_the_methods_of_a_board_stand_in_the_class_itself(self):
        self.assertEqual(board.Board.__module__, "ringkiln.board")
        self.assertEqual(board.Board.__bases__, (object,))
        for told in METHODS.split():
            name, parameters = told.rstrip(")").split("(")
            with self.subTest(name=name):
                method = vars(board.Board)[name]
                self.assertEqual(list(inspect.signature(method).parameters)[1:], [own for own in parameters.split(",") if own])

    def test_a_file_draws_from_those_ahead_of_it(self):
        self.assertEqual(sorted(path.stem for path in PACKAGE.glob("*.py")), sorted(ORDER + ["__init__"]))
        for path in PACKAGE.glob("*.py"):
            for node in ast.walk(ast.parse(path.read_text())):
                if isinstance(node, ast.ImportFrom) and node.module != "math":
                    with self.subTest(file=path.name, module=node.module):
                        package, drawn = node.module.split(".")
                        self.assertEqual(package, "ringkiln")
                        self.assertLess(ORDER.index(drawn), ORDER.index(path.stem))


class Errors(unittest.TestCase):
    def test_each_is_a_direct_subclass_of_its_class_alone(self):
        for base, rows in ERRORS.items():
            for name in rows:
                with self.subTest(name=name):
                    self.assertEqual(getattr(errors, name).__bases__, (base,))
                    self.assertEqual(getattr(errors, name).__module__, "ringkiln.errors")

    def test_each_keeps_its_values(self):
        for rows in ERRORS.values():
            for name, attributes in rows.items():
                for value in (7, -3, "loud"):
                    with self.subTest(name=name, value=value):
                        values = [value] * len(attributes)
                        by_place = getattr(errors, name)(*values)
                        by_name = getattr(errors, name)(**dict(zip(attributes, values)))
                        for error in (by_place, by_name):
                            self.assertEqual(vars(error), dict(zip(attributes, values)))

    def test_each_wants_its_values(self):
        for rows in ERRORS.values():
            for name, attributes in rows.items():
                with self.subTest(name=name), self.assertRaises(TypeError):
                    getattr(errors, name)(*[1] * (len(attributes) + 1))

    def test_there_are_no_others(self):
        names = [name for name, value in vars(errors).items() if inspect.isclass(value)]
        self.assertEqual(sorted(names), sorted(name for rows in ERRORS.values() for name in rows))


if __name__ == "__main__":
    unittest.main()
