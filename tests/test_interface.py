"""[76]: every function and class stands in its module, is defined there, and has its parameters by these names."""

import ast
import importlib
import inspect
import pathlib
import unittest

PACKAGE = pathlib.Path(__file__).resolve().parent.parent / "ownfears"

INTERFACE = """
kinds: is_integer(thing); is_number(thing); is_name(thing); are_houses(thing); is_net(thing); is_lot(houses, thing); is_family(houses, thing)
netchecker: lets_net(thing)
netparts: lots_of(net, house); reckons(net, house, lot); both_reckon(net, house, other); feared_by(net, lot); rest_of(net, lot)
netchanges: with_lot(net, house, lot); without_lot(net, house, lot); struck(net, strikes); renamed(net, *pairs); kept_to(net, houses)
nettexts: lot_text(lot); net_text(net)
netreadings: lot_read(text); net_read(text)
netclasses: Net(houses, fears); Alike(houses, family); Shut(houses); Lots(*lots)
plainquorums: plain_quorums(net); are_quorums(net, thing)
fitting: are_available(net, quorums); missed_lot(net, quorums); agree(net, quorums); torn_pair(net, quorums); fits(net, quorums)
fitchecker: lets_fit(net, thing)
kernels: kernels_of(net, quorums, house); is_kernel(net, quorums, house, lot)
falls: state_in(net, fall, house); wise_in(net, fall); naive_in(net, fall); all_falls(net)
guilds: greatest_guild(net, quorums, fall); is_guild(net, quorums, fall, thing); guild_paper(net, quorums, fall)
guildchecker: lets_guild(net, quorums, fall, thing)
goodfalls: good_falls(net, quorums, house); good_paper(net, quorums, house)
goodchecker: lets_good(net, quorums, house, thing)
standings: Standing(net, quorums); Plain(net)
covers: has_cover(net); first_cover(net); all_covers(net); is_cover(net, thing); fit_paper(net)
coverchecker: lets_cover(net, thing); lets_either(net, thing)
strikes: least_price(net, prices); least_strikes(net, prices); strike_paper(net, prices)
strikechecker: lets_strikes(net, prices, thing)
clashes: clashing(net); greatest_kept(net)
covertexts: cover_text(cover)
alikenets: alike_net(houses, k); common_fears(net)
protocolkinds: is_protocol(thing); is_setting(thing)
protocolchecker: lets_protocol(thing)
protocoltexts: protocol_text(protocol)
protocolreadings: protocol_read(text)
protocolparts: stage_of(protocol, name); is_once(protocol, name); leads_to(protocol, name)
sayings: can_say(setting, run, saying); possible_sayings(setting, run)
runs: lets_run(setting, thing); takers(setting, run, value); calm_run(setting, value)
sure: sure_sayings(setting, run); all_sayable(setting, value)
places: once_places(setting); used_places(setting, run)
sayingtexts: saying_text(saying); run_text(run)
sayingreadings: saying_read(text); run_read(text)
courses: Course(net, quorums, protocol, sender, fall); Warned(net, quorums, protocol, sender, fall)
parting: can_part(setting, house, other); part_paper(setting, house, other)
partchecker: lets_part(setting, house, other, thing)
leaving: can_leave(setting, house, other); leave_paper(setting, house, other); hears_sender(setting, house)
leavechecker: lets_leave(setting, house, other, thing)
leastfalls: parting_falls(net, quorums, protocol, sender, house, other); leaving_falls(net, quorums, protocol, sender, house, other)
leastfalls: hearing_falls(net, quorums, protocol, sender, house); safe_pairs(net, quorums, protocol, sender)
leastfalls: falls_paper(net, quorums, protocol, sender, kind, house, other)
fallchecker: lets_falls(net, quorums, protocol, sender, thing)
benchevents: is_event(net, protocol, thing)
benchlogs: is_log(thing); replayed(log)
benches: Bench(net, quorums, protocol, sender); Fallen(net, quorums, protocol, sender, *houses)
benchtexts: event_line(event); log_lines(log)
benchreadings: read_event(text); read_log(lines)
desks: Desk()
"""

METHODS = {
    ("netclasses", "Net"): "of(net) read(text) renamed(*pairs) __getitem__ __call__(house,other) __contains__ __len__ __iter__ __str__ __eq__ __add__ __sub__ __and__",
    ("netclasses", "Lots"): "covers(houses,*others) __contains__ __len__ __iter__ __str__ __eq__ __or__ __and__ __sub__",
    ("standings", "Standing"): "fell(house) rose(house) tried(fall) undo() __contains__ __len__ __iter__ __eq__",
    ("courses", "Course"): "say(house,stage,value) undo() sayable() taken(value) tried(*sayings) __iter__ __len__ __contains__ __eq__ __str__",
    ("courses", "Warned"): "blocked() say(house,stage,value)",
    ("benches", "Bench"): "say(house,stage,value) fell(house) go(event) __call__(event) barred(event) tried(*events) undo() do_all(*events,keep=False) tally() log() possible() "
                          "__getitem__ __contains__ __len__ __eq__ __str__",
    ("desks", "Desk"): "say(row) counts()",
}
PROPERTIES = {
    ("netclasses", "Net"): "pair_now houses_now fears_now", ("netclasses", "Alike"): "family_now", ("netclasses", "Lots"): "lots_now",
    ("standings", "Standing"): "net_now quorums_now fall_now guild_now states_now", ("courses", "Course"): "setting run",
    ("benches", "Bench"): "net quorums protocol sender fall_now run_now setting_now verdict",
}


def listed():
    """The triples of a module, a name in it, and its signature as written."""
    for row in INTERFACE.strip().split("\n"):
        module, heads = row.split(": ")
        for head in heads.split("; "):
            name, params = head.rstrip(")").split("(")
            yield module, name, f"({params})"


class InterfaceTest(unittest.TestCase):
    def test_functions_and_classes(self):
        for module, name, params in listed():
            with self.subTest(module=module, name=name):
                found = getattr(importlib.import_module(f"ownfears.{module}"), name)
                self.assertEqual(found.__module__, f"ownfears.{module}")
                self.assertEqual(str(inspect.signature(found)), params)
                defined = [node.name for node in ast.parse((PACKAGE / f"{module}.py").read_text()).body if isinstance(node, (ast.FunctionDef, ast.ClassDef))]
                self.assertEqual(defined.count(name), 1)

    def test_methods_stand_in_their_class(self):
        for (module, name), methods in METHODS.items():
            kind = getattr(importlib.import_module(f"ownfears.{module}"), name)
            for method in methods.replace(") ", ")\n").replace("__ ", "__\n").split("\n"):
                with self.subTest(kind=name, method=method):
                    word, *params = method.rstrip(")").split("(")
                    self.assertIn(word, vars(kind))
                    if params:
                        self.assertEqual(str(inspect.signature(getattr(kind, word))).replace(" ", "").replace("self,", "").replace("self", "").replace("cls,", ""), f"({params[0]})")

    def test_properties_stand_in_their_class(self):
        for (module, name), properties in PROPERTIES.items():
            kind = getattr(importlib.import_module(f"ownfears.{module}"), name)
            for word in properties.split(" "):
                self.assertIsInstance(vars(kind)[word], property)

    def test_derived_classes(self):
        for module, name, above in [("netclasses", "Alike", "Net"), ("netclasses", "Shut", "Alike"), ("standings", "Plain", "Standing"), ("courses", "Warned", "Course"), ("benches", "Fallen", "Bench")]:
            found = importlib.import_module(f"ownfears.{module}")
            self.assertEqual(getattr(found, name).__bases__, (getattr(found, above),))

    def test_no_tests_in_the_package(self):
        self.assertFalse([path for path in PACKAGE.rglob("*") if "test" in path.name])


if __name__ == "__main__":
    unittest.main()
