"""The rows of the examples of [4] to [25], with the answer or the error that stands there."""


KINDS = r'''
>>> brick, tile = (20, 2, 40), (25, 1, 35)
>>> own = ((brick, tile), 5, 10, 8, 30, 0)
>>> is_kind(brick), is_kind((20, 2, 19)), is_make(own), is_pile((3, 3, 5)), is_pile((5, 3)), pile_put((3, 9), (5,)), pile_less((3, 5, 9), 1)
(True, False, True, True, False, (3, 5, 9), (5, 9))
>>> course_heats(own, 12, 3), course_heats(own, 4, 3), firing_heats(own, ((0, 100), (1, 50))), firing_heats(own, ((1, 50), (0, 100)))
((12, 7, 2), (4, 0, 0), (30, 40), (25, 35))
>>> raw = ((0, 100, 0), (1, 50, 0))
>>> load_behind(own, raw, (30, 28, 31)), load_behind(own, raw, (30, 41)), load_behind(own, None, (50,)), load_behind(own, 7, (50, 2))
(((0, 100, 3), (1, 50, 2)), 150, None, 7)
>>> drawn_as(own, ((0, 100, 2), (1, 50, 0))), stay_left(own, raw), stay_left(own, ((0, 100, 3), (1, 50, 1)))
((100, 50), 2, 0)
>>> steep = ((brick, tile), 18, 10, 8, 30, 0)
>>> firing_heats(steep, ((0, 1), (1, 1))), orders_that_fire(steep, ((1, 1), (0, 1)))
(None, [])
>>> orders_that_fire(own, ((1, 50), (0, 100)))
[((0, 100), (1, 50)), ((1, 50), (0, 100))]
>>> drawn_as(own, 7)
raises Unfit()
'''

CHAMBERS = r'''
>>> bare, baking = empty_works(own, 3), (raw, 12, 12, (3, 5), True, False, True)
>>> bare[1][0], bare[2]
((None, 0, 0, (), False, False, True), (0, 0, 0, 0, 0, 0, 0))
>>> full = with_chamber(bare, 1, baking)
>>> is_works(full), is_chamber(own, (None, 3, 1, (), False, False, True)), is_chamber(own, (((2, 5, 0),),) + baking[1:]), is_chamber(own, (7,) + baking[1:])
(True, False, False, True)
>>> bricks_in(full), bricks_in(with_chamber(full, 0, (9, 0, 0, (), True, True, True)))
((0, 150, 0), (0, 150, 9))
>>> turned_works(full, 1)[1][0] == baking, turned_works(full, -2) == turned_works(full, 1)
(True, True)
>>> torn = with_chamber(full, 0, (None, 0, 0, (), False, False, False))
>>> [own_chamber[6] for own_chamber in mirror_works(torn)[1]], mirror_works(mirror_works(torn)) == torn
([True, False, True], True)
>>> test_holds(full, 1, ("set",)), test_holds(full, 1, ("below", 12)), test_holds(full, 0, ("pieces", 1)), test_holds(full, 1, ("wicket", True))
(True, False, True, True)
>>> seen_from(with_chamber(bare, 2, (((0, 100, 9),), 4, 30, (), False, True, True)), 2)[0]
(((0, 100, 2),), 4, (), False, True, True)
>>> seen_from(full, 3)
raises NoChamber(number=3)
'''

DRAUGHTS = r'''
>>> make, plain = (((20, 2, 40),), 5, 10, 8, 30, 0), (0, 0, 0, 0, 0, 0, 0)
>>> mouth, middle = (None, 24, 0, (), True, False, False), (None, 9, 0, (6, 8), False, False, False)
>>> tail = (((0, 50, 0),), 4, 4, (), False, True, True)
>>> kiln = (make, (mouth, middle, tail), plain)
>>> draught_from(kiln, 0), all_draughts(kiln), stopped_by(kiln, 1), in_draught(kiln, 2), quiet(kiln)
((0, 1, 2), ((0, 1, 2),), ('wicket', 1), (0, 1, 2), ())
>>> walled = changed(kiln, (("screen", 0),))
>>> draught_from(walled, 0), stopped_by(walled, 0), why_quiet(walled, 2), why_quiet(walled, 0), quiet(walled)
(None, ('screen', 0), ('screen', 0), ('screen', 0), (0, 1, 2))
>>> openings_for(walled, 1), is_openings(walled, 1, (("wicket", 1),)), is_openings(walled, 1, (("damper", 1),)), openings_for(kiln, 1)
((('screen', 0),), True, False, ())
>>> lost_by(kiln, ("damper", 1)), won_by(kiln, ("damper", 1)), is_draught(kiln, (0, 1, 2)), is_draught(kiln, (0, 1))
(((0, 1, 2),), ((0, 1),), True, False)
>>> molten = (make, (mouth, (60,) + middle[1:], tail), plain)
>>> stopped_by(molten, 0), why_quiet(molten, 2)
(('slag', 1), ('slag', 1))
>>> openings_for(molten, 1)
raises NoPaper()
'''

TICKS = r'''
>>> air_through((24, 9, 4)), air_through((1, 0, 1)), heats_before((12, 11, 7), 7)
(((12, 11, 7), 7), ((1, 0, 1), 0), [(23, 10, 4), (23, 11, 3), (24, 9, 4), (24, 10, 3)])
>>> [own[1] for own in bare_tick(kiln)[1]], bare_tick(kiln)[2], bare_tick(kiln)[1][1][3], bare_tick(kiln)[1][2][2]
([12, 17, 7], (1, 7, 0, 6, 0, 0, 0), (8,), 7)
>>> burners(kiln), kindled(kiln), fallen(kiln), heat_shares(kiln, 1), still_tick(kiln) == (make, kiln[1], (1,) + plain[1:])
((1,), (1,), (), (2, 6, 0), True)
>>> [own[1][1][1] for own in tick_parts(kiln)], is_bare_tick(kiln, bare_tick(kiln)), is_bare_tick(kiln, kiln)
([11, 17, 17, 17, 17], True, False)
>>> ware, grounds = ((0, 50, 0), (0, 10, 1)), make[:5] + (10,)
>>> warm, over = (make, ((ware, 24, 30, ()) + tail[4:], middle, tail), plain), (make, ((ware, 47, 30, ()) + tail[4:], middle, tail), plain)
>>> marks_done(warm)[1][0][:3], marks_done(over)[1][0], slag_next(over), torn_next(over)
((((0, 50, 1), (0, 10, 1)), 24, 30), (60, 47, 47, (), False, True, False), (0,), (0,))
>>> still_tick((grounds, kiln[1], plain))[2], [own[1] for own in still_tick((grounds, kiln[1], plain))[1]]
((1, 0, 2, 0, 0, 0, 0), [22, 9, 4])
>>> fallen((make, (mouth[:1] + (18,) + mouth[2:], middle, tail), plain)), heats_before((3, 5), 3)
((0,), [])
'''

DEEDS = r'''
>>> craft = (((20, 2, 50),), 5, 20, 12, 40, 10)
>>> old, hot, green = (((0, 100, 2),), 24, 48, (), True, False, False), (((0, 80, 0),), 36, 36, (15,), False, False, False), (((0, 80, 0),), 4, 4, (), False, True, True)
>>> ring = (craft, (old, hot, green), (0, 0, 0, 0, 0, 0, 0))
>>> [why_not(ring, own) for own in (("draw", 0), ("draw", 1), ("clear", 1), ("open", 0), ("coal", 1, ()), ("brick", 0))]
['heat', 'wicket', 'load', 'same', 'nothing', None]
>>> can_do(ring, ("set", 2, ((0, 5),))), is_deed(("set", 7, ((4, 5),))), is_deed(("draw", True)), is_deed(("coal", 1, (5, 3)))
(False, True, False, False)
>>> deeds_here(ring, 0)
[('brick', 0), ('damper', 0, True), ('screen', 0, True)]
>>> done(ring, ("coal", 1, (3, 20)))[1][1][3], done(ring, ("wood", 1, 9))[1][1][1:3], done(ring, ("wood", 1, 9))[2]
((3, 15, 20), (45, 45), (0, 0, 0, 9, 0, 0, 0))
>>> cold = (craft, ((((0, 100, 2), (0, 40, 1)), 11, 48, (), True, False, False), hot, green), (4, 0, 0, 0, 0, 0, 0))
>>> drawn = done(cold, ("draw", 0))
>>> drawn[1][0], drawn[2], done(drawn, ("set", 0, ((0, 60),)))[1][0][:3]
((None, 11, 0, (), True, False, False), (4, 0, 0, 0, 100, 40, 0), (((0, 60, 0),), 11, 11))
>>> undo_of(ring, ("brick", 0)), undo_of(ring, ("wood", 1, 5)), deed_turned(("damper", 2, True), 2, 3)
(('open', 0), None, ('damper', 1, True))
>>> either_order(ring, ("brick", 0), ("open", 0)), either_order(ring, ("wood", 1, 5), ("coal", 1, (3,)))
(False, True)
>>> doors_between(ring, deeds_done(ring, (("brick", 0), ("screen", 2, False)))), is_told(((1, ("draw", 0)), (1, ("brick", 0))))
((('brick', 0), ('screen', 2, False)), True)
>>> done(ring, ("draw", 0))
raises Unfit()
>>> can_do(ring, ("brick", 3))
raises NoChamber(number=3)
'''

RUNS = r'''
>>> heat_rows(ring, (), (), (), 2)
((24, 36, 4), (11, 36, 13), (6, 19, 16))
>>> ledger_rows(ring, (), ((2, ("draw", 0)),), (), 2)[1:]
((1, 14, 5, 15, 0, 0, 0), (2, 30, 8, 15, 100, 0, 0))
>>> run(ring, (), (), (1,), 1)[1] == ((((0, 100, 3),), 22, 48, (), True, False, False), (((0, 80, 1),), 33, 36, (15,), False, False, False), green)
True
>>> feed = ((0, (("pieces", 1),), ("coal", (15,))),)
>>> heat_rows(ring, feed, (), (), 2)[2], as_told(ring, feed, ((2, ("draw", 0)),), (), 3)[:2]
((6, 33, 16), ((2, ('draw', 0)), (2, ('coal', 1, (15,)))))
>>> tops_after(ring, (), (), (), 2), works_rows(ring, (), (), (), 1) == (ring, run(ring, (), (), (), 1))
(((0, 48), (1, 36), (2, 16)), True)
>>> later = ((2, ("draw", 0)), (5, ("open", 2)))
>>> told_turned(later, 1, 3), told_from(later, 2), stills_from((2, 5), 2)
(((2, ('draw', 1)), (5, ('open', 0))), ((3, ('open', 2)),), (3,))
>>> run(ring, (), ((1, ("draw", 0)),), (), 1)
raises Unfit()
'''

FIRES = r'''
>>> make, bricks = (((20, 2, 90),), 0, 25, 15, 200, 0), ((0, 10, 0),)
>>> mouth = (None, 0, 0, (), True, False, False)
>>> kiln = (make, (mouth, (bricks, 80, 80, (16, 16), False, False, False), (bricks, 8, 8, (20,), False, True, True)), (0, 0, 0, 0, 0, 0, 0))
>>> fires_of(kiln), fronts_of(kiln), is_out(kiln), fire_at(kiln, 2)
([(1,)], (1,), False, None)
>>> fire_rows(kiln, (), (), 5), is_fire_rows(kiln, (), (), 2, ((1,), (1,), (1, 2))), is_fire_rows(kiln, (), (), 1, ((1,), (1, 2)))
(((1,), (1,), (1, 2), (2,), (), ()), True, False)
>>> kindled_at(kiln, (), (), 9), comes_to(kiln, (), (), 9, 2), comes_to(kiln, (), (), 9, 0), passes(kiln, (), (), 9, 2)
(((), (), (2,)), 2, None, (2,))
>>> goes_out(kiln, (), (), 9), cause_of(kiln, (), (), 9)
(4, (4, 'coal'))
>>> feed = ((0, (("pieces", 1),), ("coal", (20,))),)
>>> goes_out(kiln, feed, (), 9), cause_of(kiln, feed, (), 9)
(7, (7, 'heat'))
>>> cold = (None, 0, 0, (), False, False, False)
>>> leap = ((make[0], 0, 25, 15, 200, 10), (mouth, (bricks, 100, 100, (), False, False, False), cold, (bricks, 24, 24, (20,), False, True, True)), (0, 0, 0, 0, 0, 0, 0))
>>> jumps(leap, (), (), 1), fire_rows(leap, (), (), 1), cause_of(leap, (), ((1, ("damper", 3, False)),), 20)
([(1, 3)], ((1,), (1, 3)), (15, 'air'))
>>> comes_to(kiln, (), (), 9, 3)
raises NoChamber(number=3)
>>> goes_out(kiln, (), ((1, ("brick", 1)),), 9)
raises Unfit()
>>> cause_of(kiln, (), ((2, ("damper", 2, False)),), 9)
raises NoPaper()
'''

RULES = r'''
>>> acts_now(kiln, feed), acts_now(run_by(kiln, feed, 2), feed), run_by(kiln, (), 1)[2]
([], [('coal', 2, (20,))], (1, 24, 0, 16, 0, 0, 0))
>>> run_by(kiln, (), 1)[1][1], run_by(kiln, (), 1)[1][2]
((((0, 10, 1),), 56, 80, (16,), False, False, False), (((0, 10, 1),), 24, 24, (20,), False, True, True))
>>> used_at(kiln, feed, 5, 0), never_used(kiln, feed, 2), never_used(kiln, feed, 3), first_unlike(kiln, (), feed, 9)
((3, 4, 5), (0,), (), 3)
>>> flip = ((0, (), ("damper", True)), (0, (), ("damper", False)))
>>> clash_of(kiln, flip, 5), clash_of(kiln, feed, 5), ruled(kiln, flip) == kiln, acts_now(kiln, flip)
((1, 0, 1), None, True, [('damper', 1, True), ('damper', 1, False)])
>>> fed = with_rule(feed, 1, (0, (("set",), ("pieces", 1)), ("coal", (9,))))
>>> fed[1][2], without_rule(fed, 1) == feed, lean_rules(kiln, fed, 4), lean_rules(kiln, fed, 2), never_used(kiln, fed, 9)
(('coal', (9,)), True, (0,), (), (1,))
>>> needless_tests(kiln, fed, 4, 1), needless_tests(kiln, feed, 4, 0)
((0,), ())
>>> is_rules(make, feed), is_rules(make, ((0, (), ("set", ((1, 5),))),)), is_rules(make, ((0, ("set",), ("draw",)),)), is_rules(make, ())
(True, False, False, True)
>>> without_rule(feed, 1)
raises NoRule(number=1)
'''

STEADY = r'''
>>> kiln, none, cold = (((12, 1, 90),), 0, 8, 8, 1000, 0), (0, 0, 0, 0, 0, 0, 0), (None, 0, 0, (), False, False, False)
>>> four = ((None, 6, 0, (), True, False, False), (None, 24, 0, (), False, False, False), (None, 10, 0, (), False, True, False), (None, 2, 0, (), True, True, False))
>>> feed, dry = (0, (("pieces", 1),), ("coal", (10,))), ((-1, (), ("open",)), (1, (), ("brick",)), (0, (), ("damper", False)), (2, (), ("damper", True)))
>>> lead, ring, five = (feed,) + dry, (kiln, four, none), (kiln, four + (cold,), none)
>>> steady_paper(ring, lead), steady_paper(five, lead), out_paper(ring, dry), [is_steady_paper(ring, lead, own) for own in ((1, 4, 2), (0, 8, 0), (0, 2, 2))]
((0, 2, 1), (4, 2, 1), 3, [True, True, False])
>>> far_works(ring, lead, 10 ** 30) == (kiln, four, (10 ** 30, 10 ** 31, 0, 10 ** 31, 0, 0, 0)), fronts_far(ring, lead, 10 ** 30 + 2), round_ledger(ring, lead)
(True, (3,), (2, 20, 0, 20, 0, 0, 0))
>>> hottest_ever(ring, dry), comes_seen(ring, lead, ring), least_ring(ring, cold, lead), least_heat_for(ring, lead, 1), is_out_paper(ring, dry, 90)
((24, 0), 0, 4, 10, True)
>>> steady_paper(ring, dry)
raises NoPaper()
'''

PAIRS = r'''
>>> bits = ((None, 30, 0, (), True, False, False), (None, 4, 0, (), False, False, False), (None, 20, 0, (), False, True, False), cold)
>>> eight, bridge = pair_works(kiln, four, cold, 8, 4), (kiln, bits, none)
>>> apart(eight), apart(ring), apart_row(eight, lead, 2)[1:], nearest_ever(eight, lead), fires_for_ever(eight, lead), fires_for_ever(eight, dry)
((4, 4), (4,), [(4, 4), (4, 4)], 4, (2,), (0,))
>>> pair_paper(eight, lead), [is_pair_paper(eight, lead, own) for own in ((0, 2, 5), (3, 8, 0), (0, 2, 0))]
((0, 2, 1), [True, True, False])
>>> lone_paper(eight, dry), how_lone(eight, dry), lone_paper(bridge, ()), how_lone(bridge, ()), how_lone(ring, lead), how_lone(eight, lead)
(3, 'gone', 1, 'met', 'ahead', None)
>>> one_draught(bridge, 0, 2), starved_row(eight, lead, 1), most_fires(kiln, four, cold, 12, lead), fars_that_stay(kiln, four, cold, 8, dry)
(True, [(1, 1), (1, 5)], 3, ())
>>> pair_works(kiln, four, cold, 8, 3)
raises Unfit()
'''

SAVING = r'''
>>> bare, cold = (((20, 1, 90),), 0, 10, 8, 99, 0), (None, 0, 0, (), False, False, False)
>>> hearth = (bare, ((None, 20, 0, (20, 20), True, True, False), cold, cold), (0,) * 7)
>>> feed = ((), ((0, ("coal", (20,))),))
>>> [behind_takes(hearth, (), feed, (0,) * many)[1][0][1] for many in (1, 2, 3, 4)]
[30, 35, 18, 9]
>>> last_save(hearth, (), feed), saves_at(hearth, (), feed, 3), saves_at(hearth, (), feed, 4), saving_rows(hearth, (), feed)
(3, True, False, ((0, 1), (0, 1), (1,), ()))
>>> first_mistake(hearth, (), feed, (0, 0, 0)), first_mistake(hearth, (), feed, (1, 0, 0))
(3, None)
>>> leaf = save_paper(hearth, (), feed)
>>> [is_save_paper(hearth, (), feed, number, leaf) for number in (2, 3, 4)], is_save_paper(hearth, (), feed, 3, (leaf[0], ()))
([False, True, False], False)
>>> is_keeping(hearth, (), feed, ((0, 0, 1, 1, 1), (1,))), is_keeping(hearth, (), feed, ((0, 0, 1, 1), (1,)))
(True, False)
>>> tend, low = ((0, (("pieces", 1), ("from", 30)), ("coal", (20,))),), (bare, ((None, 20, 0, (), True, True, False), cold, cold), (0,) * 7)
>>> rescue(low, tend, feed), last_rescue(low, tend, feed), is_rescue(low, tend, feed, (0,)), last_save(hearth, tend, feed)
((1,), 1, False, None)
>>> rescue(low, (), feed)
raises NoPaper()
>>> behind_takes(low, (), feed, (0, 2))
raises NoChoice(number=2)
'''

KEEPING = r'''
>>> kiln = (((900, 1, 900),), 0, 4, 4, 900, 4)
>>> hot, cold = (None, 8, 0, (), True, True, True), (None, 0, 0, (), False, False, True)
>>> oven = (kiln, (hot, cold, cold), (0, 0, 0, 0, 0, 0, 0))
>>> fed, shut = ((0, ("coal", (6,))),), ((0, ("brick",)),)
>>> seen = ((None, 8, (), True, True, True),) + ((None, 0, (), False, False, True),) * 2
>>> seen_of(oven) == seen, can_keep(oven, (), ((), fed)), kept_lot(oven, (), ((), fed)) == ((seen, 1),)
(True, True, True)
>>> kept_by(oven, (), ((), fed), ((seen, 1),), 2)[2], chosen_tick(oven, (), ((), fed), 0)[1][0][1]
((2, 8, 4, 12, 0, 0, 0), 3)
>>> dies_within(oven, (), ((),)), death_list(oven, (), ((),)) == ((seen, 1),), dies_within(oven, (), ((), fed))
(1, True, None)
>>> dies_within(oven, (), ((), shut)), best_row(oven, (), ((), shut), 9), best_choice(oven, (), ((), fed))
(4, (1, 0, 0, 0), 1)
>>> is_kept_lot(oven, (), ((), fed), ((seen, 0),)), is_death_list(oven, (), ((), fed), ((seen, 1),)), least_choices(oven, (), ((), shut, fed))
(False, False, (2,))
>>> kept_lot(oven, (), ((),))
raises NoPaper()
'''

STILLS = r'''
>>> feed = ((0, (("pieces", 1),), ("coal", (6,))),)
>>> out_at(oven, feed, (), 9), out_at(oven, feed, (1,), 9), outlives(oven, feed, (5,), 5), run_still(oven, feed, (1,), 1)[1][0]
(None, 2, True, (None, 6, 0, (6,), True, True, True))
>>> greatest_stills(oven, feed, 1), greatest_stills(oven, feed, 5), greatest_stills(oven, (), 5)
(1, 0, None)
>>> worst_stills(oven, feed, 1, 5), is_killing(oven, feed, 1, 5, (4,)), is_killing(oven, feed, 1, 5, (5,)), is_killing(oven, (), 1, 5, ())
((1,), True, False, True)
>>> helped_by(oven, (), 3), never_kills(oven, feed, 5), out_at(oven, (), (1, 2), 5)
((1,), (5,), 3)
>>> outlives_all(oven, feed, 0), outliving_list(oven, feed, 0) == ((seen, 0),), outlives_all(oven, feed, 1), killing_stills(oven, feed, 1)
(True, True, False, (1,))
>>> warm = ((((900, 1, 900),), 0, 4, 4, 900, 0), oven[1], oven[2])
>>> less = ((0, (("pieces", 1),), ("coal", (4,))),)
>>> outlives_all(warm, less, 3), len(outliving_list(warm, less, 3)), greatest_stills(warm, less, 9)
(True, 7, 3)
>>> worst_stills(warm, less, 3, 9)
raises NoPaper()
'''

BACK = r'''
>>> brick = (((6, 1, 20),), 0, 6, 5, 100, 0)
>>> gate, ember = (None, 0, 0, (), True, False, False), (None, 12, 0, (10,), False, False, False)
>>> lane = (brick, (gate, ember, (((0, 5, 0),), 0, 0, (), False, True, True)), (0, 0, 0, 0, 0, 0, 0))
>>> four, unknown = (lane, (), (), 4), (((1, (6, 12)),), (None, ("damp", 1)))
>>> [flue_row(case_of(four, unknown, guess), (), (), 4) for guess in (((12,), 0), ((12,), 1), ((6,), 0))]
[(3, 5, 5, 3), (3, 3, 2, 1), (1, 1, 1, 1)]
>>> [guesses_that_fit(four, unknown, ((2, top),)) for top in (6, 3, 2, 5)]
[(((12,), 0),), (((12,), 1),), (((6,), 0), ((6,), 1)), ()]
>>> faults_that_fit(four, unknown, ((2, 2),)), starts_that_fit(four, unknown, ((2, 2),)), sure_fault(four, unknown, ((2, 2),))
((0, 1), ((6,),), None)
>>> sure_heat(four, unknown, ((2, 6),), 1, 1), heats_left(four, unknown, (), 1, 1)
(16, (3, 6, 16))
>>> guesses_by_flue(four, unknown, (3, None, None, None)), misfit(four, unknown, ((0, 0), (2, 5)))
((((12,), 0), ((12,), 1)), (1, 1, 1, 1))
>>> is_misfit(four, unknown, ((2, 5), (2, 6)), (0, 1, 0, 1)), is_misfit(four, unknown, ((2, 5), (2, 6)), (0, 0, 1, 1))
(True, False)
>>> is_fault(3, ("leak", 2)), is_fault(3, ("leak", 3))
(True, False)
>>> sure_fault(four, unknown, ((2, 5),))
raises NoPaper()
'''

LOOKS = r'''
>>> wheat = (((10, 2, 40),), 0, 10, 10, 50, 0)
>>> far, vent = (None, 0, 0, (), False, False, True), (None, 0, 0, (), False, True, True)
>>> ring = (wheat, ((None, 30, 0, (8,), True, False, False), vent, far), (0, 0, 0, 0, 0, 0, 0))
>>> warm = (wheat, ((None, 31, 0, (8,), True, False, False), vent, far), (0, 0, 0, 0, 0, 0, 0))
>>> cases = ((ring, None), (ring, ("damp", 0)), (warm, None))
>>> looks = (("flue", 1), ("heat", 2, 1), ("flue", 2))
>>> [parted_by(cases, (), (), own) for own in looks]
[[(7, (0, 1, 2))], [(8, (1,)), (10, (0, 2))], [(14, (1,)), (16, (0,)), (17, (2,))]]
>>> best_look(cases, (), (), looks), worth_of(cases, (), (), looks[1]), blind_pairs(cases, (), (), looks[:2])
((1, 2), 2, ((0, 2),))
>>> least_looks(cases, (), (), looks), [looks_needed(cases, (), (), own) for own in (looks, looks[:2])]
((2,), [1, None])
>>> is_looks_plan(cases, (), (), looks, 1, (2, ((14, ()), (16, ()), (17, ()))))
True
>>> is_looks_doubt(cases, (), (), looks[:2], 1, ((0, 2), (((0, 2), ()), ((0, 2), ()))))
True
>>> looks_plan(cases, (), (), looks[:2], 3)
raises NoPaper()
'''

REPAIRS = r'''
>>> made, blank, shut = (((2, 1, 100),), 0, 8, 6, 50, 0), (0, 0, 0, 0, 0, 0, 0), (None, 0, 0, (), False, False, True)
>>> yard = (made, ((None, 4, 0, (), True, False, True), shut, (None, 16, 0, (), True, True, True)), blank)
>>> orders = ((0, (), ("coal", (8,))), (1, (("set",),), ("draw",)), (1, (("empty",),), ("set", ((0, 5),))))
>>> out_from(yard, orders, 0, 1, 4), no_repair(yard, orders, 0, 1, 2), least_loss(yard, orders, 0, 1, 4)
((1,), (('lost', 5), ('entered', 2)), (5, 1))
>>> repair_at(yard, orders, 1, 2, 4), is_repair(yard, orders, 1, 2, 4, 3), is_repair(yard, orders, 1, 2, 4, 4), put_out(yard, orders, 3)
(1, True, False, (2,))
>>> repaired_run(yard, orders, (0, 1, 1), 3)[2][2]
(3, 24, 0, 24, 5, 0, 0)
>>> warm = (made, ((None, 40, 0, (20,), True, False, False), (None, 0, 0, (), False, False, False), (None, 0, 0, (8,), False, True, True)), blank)
>>> past_at(warm, (), (1, 1, 1), 3), jump_room(warm, (), 1, 3), longest_jump(warm, (), 3)
(2, (1,), (1, 0))
>>> hall = (made, ((None, 40, 0, (), True, False, False), (None, 0, 0, (), False, True, True), shut), blank)
>>> loses_by(hall, ((1, (("pieces", 1),), ("coal", (20,))),), (1, 1, 1), 6), loses_by(yard, orders, (1, 4, 1), 4)
(('out', 4), None)
>>> loses_by(yard, orders, (0, 4, 2), 4)
raises NoTick(number=4)
'''

STARTS = r'''
>>> stove = (made, ((None, 0, 0, (8, 8), True, True, True), shut, shut), blank)
>>> least_wood(stove, (), 0, 3, 20), fails_at(stove, (), (0, (15,)), 6), fails_at(stove, (), (0, (14,)), 6), fails_at(stove, (), (1, (8,)), 6)
(15, 4, 1, None)
>>> start_rows(stove, (), 0, 3, 2, 15), wood_saved(stove, (), 0, 3, 2, 15), start_paper(stove, (), 0, 3, 3), start_at(stove, (), 3, 20)
(((0, 15), (1, 14), (15, 0)), 0, (1, 1, 1, 1), (8, 1))
>>> relay = (made, ((None, 0, 0, (8,), True, False, False), (None, 0, 0, (8,), False, True, True), shut), blank)
>>> [fails_at(relay, (), (0, (wood,)), 4) for wood in (29, 30)], catches_at(relay, (), (0, (29,)), 4), catches_at(relay, (), (0, (30,)), 4)
([None, 4], ((0, 1), (1, 2)), ((0, 1), (1, 1)))
>>> first_round(relay, (), (0, (29,)), 4), first_round(warm, (), (0, ()), 3), is_start(relay, (), 4, (0, (29,))), is_start(relay, (), 4, [0, (29,)])
(None, 2, True, False)
>>> least_wood(stove, (), 0, 6, 20)
raises NoPaper()
>>> start_rows(stove, (), 0, 3, 3, 15)
raises TooMany()
'''

ALIKE = r'''
>>> bare, cold = (((20, 1, 90),), 0, 10, 8, 99, 0), (None, 0, 0, (), False, False, False)
>>> fill, again = (1, (("pieces", 1),), ("coal", (12,))), (1, (("pieces", 2),), ("coal", (12,)))
>>> alike_rules(bare, 3, (fill,), (fill, fill)), alike_rules(bare, 3, (fill,), (fill, again)), alike_sizes(bare, (fill,), ((4, fill[1], fill[2]),))
(True, False, (3,))
>>> hearth_one = (None, 12, 0, (), False, False, False)
>>> lone, double = (bare, (hearth_one, cold, cold), (0,) * 7), (bare, (hearth_one, cold, hearth_one, cold), (0,) * 7)
>>> is_parting_works(bare, 3, (fill,), (), lone), is_parting_works(bare, 3, (fill,), (fill, fill), lone), parting_places(bare, 3, (fill,), ())
(True, False, (1,))
>>> unbrick, wood = (1, (("from", 10),), ("open",)), (3, (), ("wood", 20))
>>> [alike_rules(bare, 4, own, (wood,)) for own in ((wood, unbrick), (unbrick, wood))], alike_rules(bare, 3, (wood, unbrick), (wood,)), alike_rules(bare, 4, (unbrick,), ())
([False, True], True, True)
>>> is_parting_works(bare, 4, (wood, unbrick), (wood,), double), parting_places(bare, 4, (wood, unbrick), (wood,))
(True, (1, 3))
>>> closed, opened_up = (2, (("wicket", True),), ("brick",)), (2, (), ("open",))
>>> order_free(bare, 3, (closed, opened_up)), order_free(bare, 3, (wood, unbrick)), order_free(bare, 4, (wood, unbrick)), swaps_free(bare, 3, (closed, opened_up, wood))
(False, True, False, (1,))
>>> places_round((wood, (-2, (), ("draw",))), 3) == ((0, (), ("wood", 20)), (1, (), ("draw",))), needed_rules(bare, 3, (fill, fill, unbrick))
(True, (0,))
>>> fed_fire, tend = (None, 20, 0, (20, 20), True, True, False), ((0, (("pieces", 1), ("from", 30)), ("coal", (20,))),)
>>> hearth, low = [(bare, (fed_fire[:3] + (pile,) + fed_fire[4:], cold, cold), (0,) * 7) for pile in ((20, 20), ())]
>>> first_unlike_tick(hearth, tend, ()), first_unlike_tick(hearth, tend, tend + tend), alike_from(low, tend, ())
(3, None, True)
>>> parting_works(bare, 3, (fill,), (fill, fill))
raises NoPaper()
'''

ACCOUNTS = r'''
>>> drawn = (lane, (), ((5, ("open", 2)), (5, ("draw", 2))), 5)
>>> heat_account(drawn)
((0, 0, 0, 0, 0, 0, 0), (12, 10, 0, 0, 20, 0, 2), (0, 0, 0, 20, 18, 0, 2))
>>> flue_by_place(drawn), burnt_row(drawn), air_gains(drawn)
((0, 0, 18), (10, 0, 0, 0, 0), (0, 0, 6))
>>> bricks_account(drawn), drawn_by_place(drawn), good_share(drawn), good_share(four)
(((5, 0, 5, 0, 0, 0),), ((0, 0, 0), (0, 0, 0), (5, 0, 0)), (1, 1), None)
>>> kinds_that_fire(drawn, 1), kinds_that_fire(drawn, 0), slag_made(drawn), soft_drawn(drawn)
((0,), (), (), ())
>>> cold = (brick, (gate, ember[:3] + ((),) + ember[4:], lane[1][2]), lane[2])
>>> [least_pieces((cold,) + drawn[1:], 1, strength, 0, 5) for strength in (10, 2)], soft_drawn((cold,) + drawn[1:])
([1, None], ((5, 2),))
>>> is_account(four, ((0, 0, 0, 0, 0, 0, 0), (12, 10, 0, 0, 20, 0, 2), (0, 0, 0, 20, 16, 0, 4))), is_account(four, heat_account(drawn))
(True, False)
>>> kinds_that_fire(four, 3)
raises NoChamber(number=3)
'''

JUDGE = r'''
>>> craft, noughts = (((900, 1, 900),), 0, 4, 4, 900, 4), (0, 0, 0, 0, 0, 0, 0)
>>> lit, cold, dead = (None, 8, 0, (), True, True, True), (None, 0, 0, (), False, False, True), (None, 0, 0, (), True, True, True)
>>> stove, ash, fuel = (craft, (lit, cold, cold), noughts), (craft, (dead, cold, cold), noughts), ((0, (("pieces", 1),), ("coal", (6,))),)
>>> firm, loose = ("steady", stove, fuel), ("steady", stove, ())
>>> [shows(firm, own) for own in ((0, 1, 0), (3, 2, 0), (0, 1, 1), 1)], [shows(loose, own) for own in (0, 1, 2, (0, 1, 0))]
([True, True, None, None], [None, False, False, None])
>>> not_so((firm, loose)), about(loose, fuel) == firm, turned_by((firm, loose), ()), turned_by((firm, loose), fuel)
((1,), True, (0,), (1,))
>>> paper(("start", ash, fuel, 0, 5, 6)), paper(("start", ash, fuel, 0, 5, 7))
((1, 1, 1, 1, 1, 1, 1), (0, (7,)))
>>> is_claim(firm), is_claim(firm[:2]), is_claim(("steady", stove, ((0, (), ("set", ((1, 5),))),))), is_claim(("start", ash, fuel, 3, 5, 6))
(True, False, False, False)
>>> about(("fits", (stove, (), (), 1), ((), (None,)), ()), fuel)
raises Unfit()
>>> is_so(("loud", stove))
raises NoWord(word='loud')
'''

TEXTS = r'''
>>> lines = works_text(ring).split("\n")
>>> lines[:3], lines[3:]
(['make 0 10 10 50 0', 'kind 10 2 40', 'chamber 30 0 yes no no 8 empty'], ['chamber 0 0 no yes yes - empty', 'chamber 0 0 no no yes - empty', 'ledger 0 0 0 0 0 0 0'])
>>> stoke = ((-1, (("empty",), ("below", 20)), ("coal", (5, 6))), (2, (), ("set", ((0, 5), (0, 1)))))
>>> rules_text(stoke), rules_read("rule 0 if wicket no do open") == ((0, (("wicket", False),), ("open",)),)
('rule -1 if empty and below 20 do coal 5,6\nrule 2 do set | 0 5 | 0 1', True)
>>> deeds_text(((3, ("draw", 0)), (3, ("damper", 2, True)))), deeds_read("at 1 0 wood 7"), works_read(works_text(warm)) == warm
('at 3 0 draw\nat 3 2 damper yes', ((1, ('wood', 0, 7)),), True)
>>> works_read("make 0 10 10 50 0\nkind 10 2 9")
raises BadLine(number=1)
>>> deeds_read("at 2 0 draw\nat 1 0 clear")
raises BadLine(number=1)
'''

BOARD = r'''
>>> plain = (((20, 1, 60),), 0, 15, 12, 90, 0)
>>> row = ((None, 40, 0, (), True, False, False), (None, 20, 0, (30,), False, False, False), (None, 0, 0, (), False, True, True))
>>> kiln, feed = (plain, row, (0,) * 7), ((1, (("pieces", 1),), ("coal", (30,))),)
>>> page = Board(kiln, feed)
>>> page.fronts_now(), page.go(1), page.works_now()[1][1:], page.works_now()[2][:4]
((1,), None, ((None, 50, 0, (), False, False, False), (None, 10, 0, (30,), False, True, True)), (1, 10, 0, 30))
>>> page.go(1), [part[1] for part in page.works_now()[1]], page.fronts_now(), page.works_now()[2][:4], len(page)
(None, [10, 30, 50], (2,), (2, 30, 0, 60), 2)
>>> page.lay(("set", 0, ((0, 100),))), page.works_now()[1][0][:3], page.undo()[1][0], page.undo(), page.redo(), page.moves()
(None, (((0, 100, 0),), 10, 10), 'set', ('go', 1), ('go', 1), [('go', 1), ('go', 1)])
>>> page.do(("still",)), [part[1] for part in page.works_now()[1]], page.fronts_now()
(None, [10, 30, 50], (2,))
>>> page.lay(("draw", 1))
raises Unfit()
>>> page.lay(("brick", 3))
raises NoChamber(number=3)
>>> replies(kiln, feed, "fronts\ngo 2\nheat 2\nfronts\nset 0 0 100\nset 0 0 100\nset 5 1 1\nbrick 0\nundo\nheat 3")
['1', 'done', '50', '2', 'done', 'no Unfit', 'no NoChamber', 'done', 'done', 'no NoChamber']
>>> replies(kiln, (), "fronts\ngo 0")
raises BadLine(number=1)
'''
