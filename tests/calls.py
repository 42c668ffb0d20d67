"""For each function of the interface some calls, by the names of its parameters."""

NOUGHTS = (0, 0, 0, 0, 0, 0, 0)
BRICK, TILE = (20, 2, 40), (25, 1, 35)
MAKE = ((BRICK, TILE), 5, 10, 8, 30, 10)
WARE = ((0, 100, 0), (1, 50, 1))
MOUTH = (None, 24, 0, (), True, False, False)
MIDDLE = (None, 9, 0, (6, 8), False, False, False)
TAIL = (((0, 50, 0),), 4, 4, (), False, True, True)
OLD = (((0, 100, 2), (1, 40, 0)), 7, 48, (3,), True, False, False)
CINDER = (60, 5, 48, (4, 4), True, False, False)
HOT = (WARE, 36, 36, (15,), False, False, False)
KILN = (MAKE, (MOUTH, MIDDLE, TAIL), NOUGHTS)
RING = (MAKE, (OLD, HOT, TAIL, CINDER), (4, 3, 2, 1, 5, 6, 7))
FEED = ((0, (("pieces", 1),), ("coal", (15, 20))), (-1, (), ("damper", False)), (1, (("set",), ("below", 9)), ("open",)))
FILL = ((1, (("empty",),), ("set", ((0, 3), (1, 4)))), (-2, (("wicket", True),), ("brick",)))
TOLD = ((1, ("coal", 1, (2, 9))), (1, ("brick", 0)), (2, ("open", 0)), (3, ("wood", 2, 3)), (9, ("draw", 7)))
DEEDS = (("brick", 0), ("coal", 1, (2, 3)), ("wood", 1, 9), ("draw", 3))
PLAN = {"works": KILN, "rules": FEED, "told": TOLD, "many": 4}
LONG = {"works": RING, "rules": FILL, "told": TOLD, "many": 4}
STILL = dict(PLAN, stills=(2, 3))
LONG_STILL = dict(LONG, stills=())


def over(works, **more):
    return dict(more, works=works)


def listed_once(row):
    return [part for part in row]


BOTH = (over(KILN), over(RING))
EACH = tuple(over(works, number=number) for works in (KILN, RING) for number in (0, 1, 2))
NO_SUCH = (over(KILN, number=3), over(RING, number=-1))
RUNS = (STILL, LONG_STILL, over(KILN, rules=(), told=((1, ("draw", 0)),), stills=(), many=1))
FIRES = (PLAN, LONG, over(KILN, rules=(), told=(), many=9), over(KILN, rules=(), told=((1, ("open", 4)),), many=1))
WITH_DEEDS = tuple(over(works, deed=deed) for works in (KILN, RING) for deed in DEEDS + (
    ("draw", 0), ("coal", 1, ()), ("set", 0, ((0, 5), (1, 6))), ("set", 0, ((2, 5),)), ("clear", 3), ("damper", 1, True), ("open", 9)))

RULED = (dict(PLAN), dict(LONG), {"works": KILN, "rules": (), "many": 3}, {"works": KILN, "rules": FEED, "many": 0})
RULED = tuple({name: plan[name] for name in ("works", "rules", "many")} for plan in RULED)
BY = tuple({name: plan[name] for name in ("works", "rules")} for plan in RULED)
RULE = (0, (("set",), ("from", 3)), ("coal", (4, 5)))

# Small WORKS: a FIRE that goes round, one that stays, one that dies, one that is out, one that piles up.
CRAFT = (((12, 1, 90),), 0, 8, 8, 1000, 0)
COLD = (None, 0, 0, (), False, False, False)
FOUR = ((None, 6, 0, (), True, False, False), (None, 24, 0, (), False, False, False),
        (None, 10, 0, (), False, True, False), (None, 2, 0, (), True, True, False))
LEAD = ((0, (("pieces", 1),), ("coal", (10,))), (-1, (), ("open",)), (1, (), ("brick",)), (0, (), ("damper", False)),
        (2, (), ("damper", True)))
ROUND = (CRAFT, FOUR, NOUGHTS)
TWO = (CRAFT, FOUR * 2, NOUGHTS)
STOVE = (((900, 1, 900),), 0, 4, 4, 900, 4)
LIT, DARK = (((0, 3, 0),), 8, 8, (), True, True, True), (None, 0, 0, (), False, False, True)
OVEN = (STOVE, (LIT, DARK, DARK), NOUGHTS)
OUT = (STOVE, (DARK, DARK, DARK), NOUGHTS)
FUEL = ((0, (("pieces", 1),), ("coal", (6,))),)
HOARD = (STOVE[:5] + (0,), ((None, 8, 0, (), False, False, True), DARK, DARK), NOUGHTS)
PILING = ((0, (), ("wood", 1)),)
SEEN = (((0, 3, 0),), 8, (), True, True, True), (None, 0, (), False, False, True), (None, 0, (), False, False, True)
STEADY = ({"works": ROUND, "rules": LEAD}, {"works": TWO, "rules": LEAD}, {"works": ROUND, "rules": LEAD[1:]},
          {"works": OUT, "rules": FUEL}, {"works": HOARD, "rules": PILING}, {"works": OVEN, "rules": FUEL})
PATTERN = {"make": CRAFT, "pattern": FOUR, "filler": COLD, "many": 8}
TAKEN = (((), ((0, ("coal", (6,))),), ((0, ("brick",)), (1, ("set", ((0, 4),))))), ((), ((-1, ("damper", False)),)))
CHOSEN = tuple(over(works, rules=(), choices=choices) for works in (OVEN, OUT) for choices in TAKEN) + (
    over(HOARD, rules=PILING, choices=TAKEN[1]), over(OVEN, rules=FUEL, choices=TAKEN[1]))
KEPT = ((SEEN, 1),)
STILL_RUNS = tuple(over(works, rules=rules, many=many) for works in (OVEN, OUT) for rules in ((), FUEL)
                   for many in (1, 6))
LASTING = tuple(over(works, rules=rules, most=most) for works in (OVEN, OUT) for rules in ((), FUEL)
                for most in (0, 1)) + (over(HOARD, rules=PILING, most=0),)
PLAY = (KILN, FEED, TOLD, 3)
UNKNOWN = (((1, (5, 9)), (2, (4, 7, 8))), (None, ("damp", 1), ("leak", 0)))
FITS = tuple({"play": PLAY, "unknown": UNKNOWN, "readings": readings}
             for readings in ((), ((2, 10),), ((2, 99), (0, 0)), ((3, 1),)))
CASES = ((KILN, None), (KILN, ("damp", 1)), (KILN, ("wicket", 0)), (RING[:1] + KILN[1:], ("leak", 2)))
CASE = {"rules": FEED, "told": TOLD, "many": 3}
LOOKS = (("heat", 1, 1), ("flue", 2), ("coal", 2, 1), ("top", 3, 2))
LOOKED = tuple({"cases": CASES[:many], "rules": FEED, "told": TOLD, "looks": looks}
               for many in (1, 2, 4) for looks in (LOOKS, LOOKS[:1], LOOKS + (("heat", 1, 3),)))
PARTED = tuple({"cases": CASES, "rules": FEED, "told": TOLD, "look": look} for look in LOOKS + (("coal", 1, -1),))


PLAYS = ({"play": PLAY}, {"play": (RING, FILL, TOLD, 9)}, {"play": (OVEN, FUEL, (), 1)})
ORDERS = ((0, (), ("coal", (8,))), (1, (("set",),), ("draw",)), (1, (("empty",),), ("set", ((0, 5),))))
YARD = ((((2, 1, 100),), 0, 8, 6, 50, 0), ((None, 4, 0, (), True, False, True), DARK, (None, 16, 0, (), True, True, True)),
        NOUGHTS)
YARDS = ({"works": YARD, "rules": ORDERS, "many": 4}, {"works": OVEN, "rules": FUEL, "many": 6},
         {"works": RING, "rules": FEED, "many": 3}, {"works": OUT, "rules": (), "many": 1})
AHEAD = {"make": CRAFT, "size": 4}
FILLS = ((1, (("pieces", 1),), ("coal", (12,))), (3, (("from", 9),), ("wood", 5)), (5, (), ("set", ((0, 4),))))
LIKE = (dict(AHEAD, one=FILLS, other=FILLS[1:]), dict(AHEAD, one=FILLS, other=FILLS[:1] + FILLS),
        dict(AHEAD, one=(), other=()), dict(AHEAD, one=FILLS, other=FILLS[::-1]))
CLAIMS = (("steady", OVEN, FUEL), ("steady", OVEN, ()), ("two", TWO, LEAD), ("kept", OVEN, (), TAKEN[0]),
          ("kept", OUT, (), TAKEN[0]), ("steady", HOARD, PILING),
          ("fits", PLAY, UNKNOWN, ()), ("fits", PLAY, UNKNOWN, ((2, 99),)), ("fits", PLAY, UNKNOWN, ((3, 1),)),
          ("looks", CASES, FEED, TOLD, LOOKS, 2), ("looks", CASES, FEED, TOLD, LOOKS[:1], 0),
          ("repair", YARD, ORDERS, 0, 1, 2), ("repair", YARD, ORDERS, 1, 2, 4), ("repair", YARD, ORDERS, 3, 2, 4),
          ("start", OUT, FUEL, 1, 3, 9), ("start", OUT, (), 0, 3, 3), ("loud", OVEN), ("steady", OVEN), ("fits",))
CLAIMED = tuple({"claim": claim} for claim in CLAIMS)
BENCH = "fronts\ngo 2\nheat 1\nundo\nset 1 0 5 0 6\nstill\nredo\ncoal 0 3 3\nwood 9 1\nset 0 7 1"


def each(plans, **more):
    return tuple(dict(plan, **more) for plan in plans)


CALLS = {
    "is_kind": ({"thing": BRICK},),
    "is_make": ({"thing": MAKE},),
    "is_pile": ({"thing": (3, 4)},),
    "pile_put": ({"pile": (3, 9), "other": (5,)}, {"pile": (), "other": ()}),
    "pile_less": ({"pile": (3, 5, 9), "many": 1}, {"pile": (3,), "many": 2}),
    "course_heats": ({"make": MAKE, "heat": 12, "many": 4},),
    "load_behind": ({"make": MAKE, "load": WARE, "heats": (30, 28)}, {"make": MAKE, "load": WARE, "heats": (90,)},
                    {"make": MAKE, "load": WARE, "heats": ()}, {"make": MAKE, "load": None, "heats": (3,)}),
    "drawn_as": ({"make": MAKE, "load": WARE}, {"make": MAKE, "load": 7}),
    "stay_left": ({"make": MAKE, "load": WARE}, {"make": MAKE, "load": None}),
    "firing_heats": ({"make": MAKE, "green": ((0, 100), (1, 50))},),
    "orders_that_fire": ({"make": MAKE, "green": ((1, 50), (0, 100), (0, 100))},),
    "is_chamber": ({"make": MAKE, "thing": OLD},),
    "is_works": ({"thing": KILN},),
    "empty_works": ({"make": MAKE, "many": 4},),
    "with_chamber": (over(KILN, number=1, chamber=OLD), over(KILN, number=3, chamber=OLD)),
    "turned_works": (over(RING, by=-5), over(KILN, by=1)),
    "mirror_works": BOTH,
    "bricks_in": BOTH,
    "test_holds": tuple(over(RING, number=1, test=test) for test in (
        ("set",), ("below", 37), ("pieces", 2), ("wicket", False))) + (over(RING, number=4, test=("set",)),),
    "seen_from": EACH + NO_SUCH,
    "draught_from": EACH + NO_SUCH,
    "all_draughts": BOTH,
    "stopped_by": EACH + NO_SUCH,
    "in_draught": EACH + NO_SUCH,
    "quiet": BOTH,
    "is_draught": (over(KILN, thing=(0, 1, 2)), over(RING, thing=3)),
    "why_quiet": EACH + NO_SUCH,
    "changed": (over(RING, changes=(("damper", 3), ("wicket", 0))), over(RING, changes=()),
                over(RING, changes=(("damper", 4),))),
    "openings_for": EACH + NO_SUCH,
    "is_openings": (over(RING, number=1, thing=(("wicket", 1),)), over(RING, number=4, thing=())),
    "lost_by": (over(KILN, change=("damper", 1)), over(KILN, change=("damper", 3))),
    "won_by": (over(KILN, change=("damper", 1)), over(KILN, change=("damper", 3))),
    "air_through": ({"heats": (24, 9, 4)},),
    "heats_before": ({"heats": (12, 11, 7), "flue": 7}, {"heats": (1,) * 13, "flue": 0}),
    "marks_done": BOTH,
    "bare_tick": BOTH,
    "still_tick": BOTH,
    "tick_parts": BOTH,
    "is_bare_tick": (over(KILN, thing=KILN),),
    "burners": BOTH,
    "kindled": BOTH,
    "fallen": BOTH,
    "heat_shares": EACH + NO_SUCH,
    "torn_next": BOTH,
    "slag_next": BOTH,
    "is_deed": ({"thing": ("draw", 0)},),
    "is_told": ({"thing": TOLD},),
    "can_do": WITH_DEEDS,
    "why_not": WITH_DEEDS,
    "done": WITH_DEEDS,
    "deeds_done": (over(RING, deeds=DEEDS[:3]), over(RING, deeds=DEEDS), over(RING, deeds=())),
    "deeds_here": EACH + NO_SUCH,
    "deed_turned": ({"deed": ("set", 2, ((0, 5),)), "by": 2, "many": 3}, {"deed": ("draw", 3), "by": 0, "many": 3}),
    "undo_of": WITH_DEEDS,
    "either_order": (over(RING, one=("coal", 1, (3, 4)), other=("wood", 1, 5)), over(RING, one=("draw", 4), other=()),
                     over(RING, one=("wood", 1, 5), other=("coal", 1, (3, 4)))),
    "doors_between": ({"works": KILN, "other": KILN[:1] + ((MOUTH[:4] + (False, True, True),) + KILN[1][1:],)
                       + KILN[2:]}, {"works": KILN, "other": KILN[:2] + ((1,) * 7,)}),
    "run": RUNS,
    "works_rows": RUNS,
    "heat_rows": RUNS,
    "ledger_rows": RUNS,
    "tops_after": RUNS,
    "as_told": RUNS,
    "told_turned": ({"told": TOLD[:4], "by": 2, "many": 3}, {"told": TOLD, "by": 2, "many": 3}),
    "told_from": ({"told": TOLD, "number": 1},),
    "stills_from": ({"stills": (1, 3, 4), "number": 1},),
    "fires_of": BOTH,
    "fronts_of": BOTH,
    "is_out": BOTH,
    "fire_at": EACH + NO_SUCH,
    "fire_rows": FIRES,
    "is_fire_rows": tuple(dict(plan, thing=((0,),)) for plan in FIRES),
    "kindled_at": FIRES,
    "comes_to": tuple(dict(plan, number=1) for plan in FIRES) + (dict(PLAN, number=3),),
    "passes": tuple(dict(plan, number=1) for plan in FIRES) + (dict(PLAN, number=-1),),
    "jumps": FIRES,
    "goes_out": FIRES,
    "cause_of": FIRES,
    "is_rules": ({"make": MAKE, "thing": FEED},),
    "acts_now": BY,
    "ruled": BY,
    "run_by": RULED,
    "used_at": each(RULED, number=0) + each(RULED, number=5),
    "never_used": RULED,
    "without_rule": ({"rules": FEED, "number": 1}, {"rules": FEED, "number": -1}),
    "with_rule": ({"rules": FEED, "number": 3, "rule": RULE}, {"rules": FEED, "number": 4, "rule": RULE}),
    "clash_of": RULED,
    "first_unlike": each(RULED, other=FILL) + each(RULED, other=()),
    "lean_rules": RULED,
    "needless_tests": each(RULED, number=0) + each(RULED, number=-1),
    "is_steady": STEADY,
    "steady_paper": STEADY,
    "is_steady_paper": each(STEADY, thing=(0, 2, 1)) + each(STEADY, thing=[0, 2, 1]),
    "out_paper": STEADY,
    "is_out_paper": each(STEADY, thing=3) + each(STEADY, thing=None),
    "far_works": each(STEADY, many=10 ** 30) + each(STEADY, many=1),
    "fronts_far": each(STEADY, many=10 ** 30) + each(STEADY, many=1),
    "round_ledger": STEADY,
    "hottest_ever": STEADY,
    "comes_seen": each(STEADY[:1], other=(CRAFT, FOUR[1:] + FOUR[:1], NOUGHTS)) + each(STEADY[3:5], other=OVEN),
    "rings_steady": each(STEADY[:5], filler=DARK),
    "least_ring": each(STEADY[:5], filler=DARK),
    "least_heat_for": each(STEADY[:5], number=0) + each(STEADY[:1], number=4),
    "apart": BOTH + ({"works": TWO},),
    "apart_row": RULED + each(STEADY[:2], many=5),
    "stay_two": STEADY,
    "pair_paper": STEADY,
    "is_pair_paper": each(STEADY, thing=(0, 2, 1)) + each(STEADY, thing=None),
    "lone_paper": STEADY,
    "is_lone_paper": each(STEADY, thing=0) + each(STEADY, thing=False),
    "how_lone": STEADY,
    "nearest_ever": STEADY,
    "fires_for_ever": STEADY,
    "one_draught": (over(KILN, one=0, two=2), over(KILN, one=3, two=9), over(RING, one=2, two=-1)),
    "starved_row": RULED + each(STEADY[:2], many=3),
    "pair_works": tuple(dict(PATTERN, far=far) for far in (4, 3, 8, -1)),
    "fars_that_stay": tuple(dict(PATTERN, rules=rules) for rules in (LEAD, LEAD[1:], ())),
    "most_fires": tuple(dict(PATTERN, rules=rules) for rules in (LEAD, LEAD[1:], ())),
    "are_choices": ({"thing": TAKEN[0]},),
    "chosen_tick": each(CHOSEN, number=1) + each(CHOSEN, number=5),
    "seen_of": BOTH,
    "can_keep": CHOSEN,
    "kept_lot": CHOSEN,
    "is_kept_lot": each(CHOSEN, thing=KEPT),
    "kept_by": each(CHOSEN[:3], lot=KEPT, many=3),
    "dies_within": CHOSEN,
    "death_list": CHOSEN,
    "is_death_list": each(CHOSEN, thing=((SEEN, 2),)),
    "best_choice": CHOSEN,
    "best_row": each(CHOSEN, many=6),
    "least_choices": CHOSEN,
    "behind_takes": each(CHOSEN, takes=(0, 1, 1)) + each(CHOSEN, takes=(0, 7)),
    "saves_at": each(CHOSEN, tick=1) + each(CHOSEN, tick=0),
    "last_save": CHOSEN,
    "safe_choices": CHOSEN,
    "saving_rows": CHOSEN,
    "first_mistake": each(CHOSEN, takes=(1, 0)) + each(CHOSEN, takes=(-1,)),
    "save_paper": CHOSEN,
    "is_save_paper": each(CHOSEN, tick=1, thing=(KEPT, ())) + each(CHOSEN, tick=-1, thing=None),
    "keeping": CHOSEN,
    "is_keeping": each(CHOSEN, thing=((), (1,))) + each(CHOSEN, thing=[(), (1,)]),
    "rescue": CHOSEN,
    "is_rescue": each(CHOSEN, thing=(1,)) + each(CHOSEN, thing=None),
    "last_rescue": CHOSEN,
    "run_still": each(STILL_RUNS, stills=(1, 3)),
    "out_at": each(STILL_RUNS, stills=(1, 3)),
    "outlives": each(STILL_RUNS, stills=(2,)),
    "greatest_stills": STILL_RUNS,
    "worst_stills": each(STILL_RUNS, most=2),
    "is_killing": each(STILL_RUNS, most=2, thing=(1,)),
    "helped_by": STILL_RUNS,
    "never_kills": STILL_RUNS,
    "outlives_all": LASTING,
    "outliving_list": LASTING,
    "killing_stills": LASTING,
    "is_outliving_list": each(LASTING, thing=((SEEN, 0),)),
    "is_fault": ({"n": 3, "thing": ("damp", 2)}, {"n": 3, "thing": ["damp", 2]}),
    "case_of": ({"play": PLAY, "unknown": UNKNOWN, "guess": ((9, 4), 1)},),
    "run_with": tuple(dict(CASE, case=case) for case in CASES),
    "flue_row": tuple(dict(CASE, case=case) for case in CASES),
    "guesses_that_fit": FITS,
    "faults_that_fit": FITS,
    "starts_that_fit": FITS,
    "sure_fault": FITS,
    "sure_heat": each(FITS, number=1, tick=2) + each(FITS, number=3, tick=9) + each(FITS, number=2, tick=-1),
    "heats_left": each(FITS, number=1, tick=2) + each(FITS, number=3, tick=9) + each(FITS, number=2, tick=-1),
    "guesses_by_flue": tuple({"play": PLAY, "unknown": UNKNOWN, "row": row} for row in ((None,) * 3, (5, None, 4))),
    "misfit": FITS,
    "is_misfit": each(FITS, thing=(0,) * 18) + each(FITS, thing=[]),
    "is_look": ({"thing": ("heat", 1, 2), "n": 3}, {"thing": ["flue", 1], "n": 3}),
    "shown_by": tuple({"case": CASES[1], "rules": FEED, "told": TOLD, "look": look} for look in LOOKS + (("top", 1, 3),)),
    "parted_by": PARTED,
    "worth_of": PARTED,
    "best_look": LOOKED,
    "blind_pairs": LOOKED,
    "least_looks": LOOKED,
    "looks_needed": LOOKED,
    "looks_plan": each(LOOKED, most=2),
    "looks_doubt": each(LOOKED, most=1),
    "is_looks_plan": each(LOOKED, most=1, thing=()),
    "is_looks_doubt": each(LOOKED, most=0, thing=((0, 1), ())),
    "heat_account": PLAYS,
    "is_account": each(PLAYS, thing=((0,) * 7,) * 3),
    "flue_by_place": PLAYS,
    "burnt_row": PLAYS,
    "air_gains": PLAYS,
    "bricks_account": PLAYS,
    "drawn_by_place": PLAYS,
    "good_share": PLAYS,
    "kinds_that_fire": each(PLAYS, number=1) + each(PLAYS, number=-1),
    "slag_made": PLAYS,
    "soft_drawn": PLAYS,
    "least_pieces": each(PLAYS, number=1, strength=9, kind=0, good=1) + each(PLAYS, number=0, strength=9, kind=2, good=0)
    + each(PLAYS, number=4, strength=9, kind=2, good=0) + each(PLAYS, number=0, strength=9, kind=0, good=0),
    "out_from": each(YARDS, number=0, long=1) + each(YARDS, number=4, long=1),
    "loses_by": each(YARDS, repair=(0, 1, 1)) + each(YARDS, repair=(1, 0, 1)) + each(YARDS, repair=(-1, 0, 1)),
    "repaired_run": each(YARDS, repair=(1, 1, 1)) + each(YARDS, repair=(0, 9, 1)),
    "repair_at": each(YARDS, number=0, long=1) + each(YARDS, number=4, long=1),
    "no_repair": each(YARDS, number=0, long=1) + each(YARDS, number=4, long=1),
    "is_repair": each(YARDS, number=1, long=1, thing=1) + each(YARDS, number=4, long=1, thing=[]),
    "is_no_repair": each(YARDS, number=0, long=1, thing=(("entered", 1),)) + each(YARDS, number=4, long=1, thing=[]),
    "least_loss": each(YARDS, number=1, long=1) + each(YARDS, number=4, long=1),
    "past_at": each(YARDS, repair=(2, 1, 1)) + each(YARDS, repair=(0, 9, 1)),
    "jump_room": each(YARDS, number=2) + each(YARDS, number=4),
    "longest_jump": YARDS,
    "put_out": YARDS,
    "fails_at": each(YARDS, start=(1, (3,))) + each(YARDS, start=(4, ())),
    "is_start": each(YARDS, thing=(1, (8,))) + each(YARDS, thing=[1, (8,)]),
    "catches_at": each(YARDS, start=(1, (9,))) + each(YARDS, start=(4, ())),
    "first_round": each(YARDS, start=(1, (9,))) + each(YARDS, start=(-1, ())),
    "least_wood": each(YARDS, number=1, most=9) + each(YARDS, number=4, most=9),
    "start_paper": each(YARDS, number=1, most=3) + each(YARDS, number=4, most=9),
    "is_start_paper": each(YARDS, number=1, most=1, thing=(1, 1)) + each(YARDS, number=4, most=9, thing=[]),
    "start_at": each(YARDS, most=9),
    "start_rows": each(YARDS, number=1, long=1, most=9) + each(YARDS, number=4, long=9, most=9)
    + each(YARDS, number=0, long=9, most=9),
    "wood_saved": each(YARDS, number=1, long=1, most=9) + each(YARDS, number=0, long=9, most=9),
    "alike_rules": LIKE,
    "alike_sizes": tuple({name: plan[name] for name in ("make", "one", "other")} for plan in LIKE),
    "parting_works": LIKE,
    "is_parting_works": each(LIKE, thing=ROUND) + each(LIKE, thing=listed_once(ROUND)),
    "parting_places": LIKE,
    "places_round": tuple({"rules": rules, "size": 4} for rules in (FILLS, FILL, ())),
    "needed_rules": tuple(dict(AHEAD, rules=rules) for rules in (FILLS, FILLS + FILLS[:1], ())),
    "order_free": tuple(dict(AHEAD, rules=rules) for rules in (FILLS, FILLS[:2], ())),
    "swaps_free": tuple(dict(AHEAD, rules=rules) for rules in (FILLS, FILLS[:2], ())),
    "first_unlike_tick": tuple(over(works, one=FUEL, other=other) for works in (OVEN, OUT) for other in (FUEL, ()))
    + (over(HOARD, one=PILING, other=PILING),),
    "alike_from": tuple(over(works, one=FUEL, other=other) for works in (OVEN, OUT) for other in (FUEL, ()))
    + (over(HOARD, one=PILING, other=PILING),),
    "is_claim": ({"thing": CLAIMS[0]}, {"thing": list(CLAIMS[0])}),
    "is_so": CLAIMED,
    "paper": CLAIMED,
    "is_paper": each(CLAIMED, thing=(0, 1, 0)) + each(CLAIMED, thing=None),
    "shows": each(CLAIMED, thing=(0, 1, 0)) + each(CLAIMED, thing=None),
    "about": each(CLAIMED, rules=FEED),
    "not_so": ({"claims": CLAIMS[:5]}, {"claims": ()}, {"claims": CLAIMS}),
    "turned_by": ({"claims": CLAIMS[:5] + CLAIMS[6:9], "rules": ()}, {"claims": (), "rules": FEED},
                  {"claims": CLAIMS, "rules": ()}),
    "works_text": BOTH,
    "rules_text": tuple({"rules": rules} for rules in (FEED, FILL, ())),
    "deeds_text": ({"told": TOLD}, {"told": ()}),
    "works_read": ({"text": "make 0 10 10 50 0\nkind 10 2 40" + "\nchamber 3 0 yes no no - empty" * 3 + "\nledger"
                    + " 0" * 7}, {"text": ""}),
    "rules_read": ({"text": "rule -1 if empty and below 20 do coal 5,6"}, {"text": "rule"}),
    "deeds_read": ({"text": "at 1 0 set | 0 5"}, {"text": "at"}),
    "is_request": ({"line": "heat 1"}, {"line": ""}),
    "replies": (over(KILN, rules=FEED, text=BENCH), over(RING, rules=(), text=""), over(KILN, rules=(), text="go 0")),
}

# These return a list; all others return no list at any depth.
LISTS = ("orders_that_fire", "heats_before", "deeds_here", "fires_of", "jumps", "acts_now", "apart_row", "starved_row",
         "parted_by", "repaired_run", "replies")
