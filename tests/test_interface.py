"""The interface: the names and parameters of what there is, each in its own file."""

import importlib
import inspect
import unittest

FUNCTIONS = {
    "debates": ["objectors(debate, statement)", "objected(debate, statement)"],
    "lots": [
        "answered(debate, lot)", "is_lot(debate, way, thing)", "lots_of(debate, way)", "least_lot(debate)",
        "fault_of(debate, way, lot)",
    ],
    "labels": ["is_labelling(debate, thing)", "labels_of(debate, lot)", "stands(debate, way, statement, how)"],
    "otherdebates": [
        "cut_to(debate, lot)", "without(debate, lot)", "renamed(debate, names)", "joined(one, other)",
        "turned(debate)",
    ],
    "ranking": ["rank_of(debate, statement)", "ranks_of(debate)", "stages(debate)", "left_ring(debate)"],
    "doubts": [
        "is_doubt(debate, statement, thing)", "greatest_doubt(debate)", "smallest_doubt(debate, statement)",
    ],
    "talks": [
        "least_talk(debate, statement, defender, opposer)", "winning_defender(debate, statement)",
        "winning_opposer(debate, statement)", "beat_defender(debate, statement, defender)",
        "beat_opposer(debate, statement, opposer)", "least_talk_length(debate, statement)",
        "best_talk(debate, statement)",
    ],
    "defences": ["is_defence(debate, statement, thing)", "fewest_defence(debate, statement)"],
    "heldtalks": [
        "held_talk(debate, statement, defender, opposer)", "held_plan(debate, statement)", "held_opposer(debate)",
        "least_held(debate, statement)", "held_length(debate, statement)",
    ],
    "parts": [
        "parts_of(debate)", "labels_by_parts(debate)", "lots_by_parts(debate, way)",
        "stands_by_parts(debate, way, statement, how)",
    ],
    "oddrings": ["is_odd_ring(debate, thing)", "odd_ring(debate)", "why_unsettled(debate, lot)"],
    "surelots": [
        "lacking_lot(debate, statement)", "sure_lots(debate)", "sure_lot(debate)", "is_sure(debate, thing)",
        "sure_paper(debate, statement)", "why_unsure(debate, lot)",
    ],
    "families": [
        "pairs_in(family)", "kept_down(family)", "family_of(debate, kind)", "nearest_calm(family)",
        "clashes(family, debate)", "crossed(one, other)",
    ],
    "bars": ["bar_of(family, kind)", "is_bar(family, kind, thing)", "kinds_for(family)"],
    "builtdebates": ["debate_for(family, kind)", "exact_debates(family, kind)"],
    "pieces": ["put_in(around, piece)", "cut_out(debate, lot)"],
    "piecetables": ["table_of(piece, way)", "piece_with(table)"],
    "surroundings": [
        "lots_around(around, piece, way)", "around_parting(one, other, way)",
        "is_around_parting(one, other, way, thing)",
    ],
    "joinedpieces": [
        "pieces_joined(one, other)", "fed_back(piece, number, gate)", "tables_joined(one, other, way)",
        "table_fed_back(table, way, number, gate)",
    ],
    "groups": [
        "grouped_of(debate)", "is_grouped_labelling(grouped, thing)", "grouped_labellings(grouped, way)",
        "made_plain(grouped)",
    ],
    "needs": ["need_ranks(grouped, lot)", "unrested(grouped, lot)"],
    "tables": ["is_tabled_labelling(tabled, thing)", "tabled_labellings(tabled, way)"],
    "conditions": [
        "conditions(tabled, statement)", "leanings(tabled, statement)", "tables_made_plain(tabled)",
        "by_groups(tabled)", "not_by_groups(tabled)",
    ],
    "tabledoubts": [
        "tabled_rank(tabled, statement)", "tabled_doubt(tabled, statement)", "is_tabled_doubt(tabled, thing)",
    ],
    "audiences": [
        "heard_debate(debate, worths, audience)", "all_audiences(debate, worths)", "value_ring(debate, worths)",
        "is_value_ring(debate, worths, thing)", "raised(debate, worths, audience, value)",
        "stands_raised(debate, worths)",
    ],
    "forwhom": [
        "audiences_for(debate, worths, way, statement, how)", "sure_ones(debate, worths, way, how)",
        "possible_ones(debate, worths, way, how)", "audience_lots(debate, worths)",
        "apart_at(debate, worths, one, other)", "counted_alike(debate, worths)",
    ],
    "orderpairs": [
        "audiences_kept(debate, worths, pairs)", "pairs_fault(debate, worths, way, statement, how, pairs)",
        "fewest_pairs(debate, worths, way, statement, how)", "exchanges(debate, worths, one, other)",
        "nearest(debate, worths, audience, way, statement, how)",
    ],
    "unsure": ["fillings(unsure)", "is_filling(unsure, thing)", "learned(unsure, thing, there)"],
    "bestfillings": [
        "best_filling(unsure, lot)", "worst_filling(unsure, lot)", "first_for(unsure, way, lot)",
        "first_against(unsure, way, lot)",
    ],
    "unsurestanding": [
        "first_standing(unsure, way, statement, how)", "first_falling(unsure, way, statement, how)",
        "label_table(unsure)",
    ],
    "questions": [
        "judge_by(way, statement, how)", "judged(unsure, judge)", "fewest_questions(unsure, judge)",
        "question_tree(unsure, judge)", "is_question_tree(unsure, judge, many, thing)",
        "break_asker(unsure, judge, asker, many)",
    ],
    "chances": ["chances_told(unsure, chances, judge)", "fewest_on_average(unsure, chances, judge)"],
    "rules": ["follows(known, absent)", "with_rules(known, rules)"],
    "readings": ["readings(known, way)", "is_reading(known, way, thing)"],
    "arguments": [
        "supports(known, claim)", "arguments(known)", "debate_of(known)", "reading_of(known, lot)",
        "lot_behind(known, reading)",
    ],
    "showings": ["is_showing(known, claim, thing)", "showing_of(known, claim)", "undecided_in(known, claim)"],
    "levels": ["levels(known)", "is_walk(known, thing)", "unless_walk(known)", "odd_walk(known)"],
    "rulepairs": ["pairs_of(known)", "parting_rules(one, other)", "is_parting(one, other, thing)"],
    "prices": [
        "overhearing(debate, objections)", "price_of(debate, weights, way, lot)",
        "overheard_for(debate, weights, way, lot)",
    ],
    "budgets": [
        "greatest_by(debate, weights, budget)", "budget_table(debate, weights)",
        "least_budget(debate, weights, statement)", "cheapest_lot(debate, weights, statement)",
        "most_for(debate, weights, statement, budget)",
    ],
    "rises": [
        "cheapest_rise(debate, weights, statement)", "cheapest_fall(debate, weights, statement)",
        "with_answer(debate, statement, name)",
    ],
    "benches": ["merged(bench, quota)", "merged_by(bench, rule)", "thin_link(bench, quota, ring)"],
    "winning": [
        "winning_lots(rule, judges)", "vetoers(rule, judges)", "fewest_apart(rule, judges)", "is_ringless(debate)",
        "ring_bench(rule, judges, many)",
    ],
    "kept": ["is_kept(way, judges, quota)", "spoiling_bench(way, judges, quota)"],
    "verdicts": [
        "let_stand(bench, statement)", "standing_by(bench, quota)", "clash_sure(judges, quota, other)",
        "clash_bench(judges, quota, other)", "fewest_silenced(bench, quota, statement)",
        "alone_for(bench, quota, statement)",
    ],
    "toldverdicts": [
        "verdict(debate, table)", "are_twins(one, other)", "least_twin(debate)", "told_back(names, judge)",
    ],
    "records": [
        "fitting(names, records)", "sure_objections(names, records)", "possible_objections(names, records)",
        "record_clash(names, records)",
    ],
    "askers": [
        "questions_left(names, records)", "best_tables(names, records)", "beat_asker(names, records, asker, many)",
    ],
    "halltexts": ["write_hall(hall)", "read_hall(text)"],
}
CLASSES = {
    "debates": {"Debate(statements, objections)": ["statements", "objections", "__len__", "__eq__"]},
    "pieces": {"Piece(statements, ins, objections, outs)": ["parts", "__eq__"]},
    "groups": {"Grouped(statements, objections, needs)": ["parts", "__eq__"]},
    "tables": {"Tabled(tables)": ["tables", "__eq__"]},
    "unsure": {"Unsure(debate, maybe, perhaps)": ["full", "maybe", "perhaps", "things", "__eq__"]},
    "rules": {"Rules(claims, rules)": ["claims", "triples", "__eq__"]},
    "halls": {"Hall()": [
        "now", "speakers", "watched", "do(deed)", "is_question(thing)", "answer(question)", "would(deed)",
        "helps(speaker, statement)", "count", "undo", "again", "deeds", "at(number)", "copy", "trial(work)", "__eq__",
    ]},
}


class TestInterface(unittest.TestCase):
    def test_functions(self):
        for file, heads in FUNCTIONS.items():
            module = importlib.import_module("objections." + file)
            for head in heads:
                name = head.split("(")[0]
                told = getattr(module, name)
                self.assertEqual(name + str(inspect.signature(told)), head)
                self.assertEqual(told.__module__, "objections." + file)

    def test_classes(self):
        for file, heads in CLASSES.items():
            module = importlib.import_module("objections." + file)
            for head, methods in heads.items():
                kind = getattr(module, head.split("(")[0])
                self.assertEqual(kind.__name__ + str(inspect.signature(kind)), head)
                self.assertEqual(kind.__module__, "objections." + file)
                for method in methods:
                    name, _, names = method.rstrip(")").partition("(")
                    self.assertIn(name, vars(kind))
                    told = list(inspect.signature(getattr(kind, name)).parameters)[1:]
                    self.assertEqual(told, names.split(", ") if names else ["other"] if name == "__eq__" else [])

    def test_there_is_nothing_without_its_file(self):
        """Each file of the interface is named here."""
        self.assertEqual(len(set(FUNCTIONS) | set(CLASSES)), 50)
