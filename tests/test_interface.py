"""The names, arguments and defaults of the interface, each imported from the module that is named for it."""

import importlib
import inspect
import unittest

FUNCTIONS = """
tables: right_of(table, state), hand_row(table, state, event), house_row(table, state, kind, last)
tabletext: read_table(text), table_text(table)
standings: start(table, many), clash(table, standing), renamed(standing, order), thinned(standing)
steps: may(table, standing, order=True), stuck(table, standing, order=True), step(table, standing, deed), \
play(table, many, deeds)
store: plain(answers), first_wrong(answers)
shapes: mark_of(value, last), config_of(line, last), start_shape(table), shape_of(standing), \
lies_in(standing, shape), is_within(shape, other), may_clash(table, shape), may_be_stuck(table, shape, order=True)
after: after(table, shape, order=True)
papers: checked(table, paper, order=True)
finder: find_paper(table, order=True, most=400), find_run(table, many, order=True, most=3000)
papertext: shape_text(shape), paper_text(paper), deeds_text(deeds), read_paper(text), read_deeds(text)
"""


def promised():
    for row in FUNCTIONS.strip().split("\n"):
        module, told = row.split(": ")
        for form in told.replace("), ", ")|").split("|"):
            yield module, form


class Interface(unittest.TestCase):
    def test_functions(self):
        for module, form in promised():
            with self.subTest(module=module, form=form):
                name = form.partition("(")[0]
                found = getattr(importlib.import_module("copyclerk." + module), name)
                self.assertTrue(inspect.isfunction(found))
                self.assertEqual(name + str(inspect.signature(found)), form)
                self.assertEqual(found.__module__, "copyclerk." + module)

    def test_the_desk(self):
        desk = importlib.import_module("copyclerk.desk").Desk
        self.assertTrue(inspect.isclass(desk))
        self.assertEqual(str(inspect.signature(desk)), "()")
        self.assertEqual(str(inspect.signature(desk.say)), "(self, row)")

    def test_by_keyword(self):
        finder = importlib.import_module("copyclerk.finder")
        table = ((("idle", "none"),), ("home",), ())
        self.assertEqual(finder.find_paper(most=0, order=False, table=table), ("gave up",))
        self.assertEqual(finder.find_run(most=1, order=False, many=2, table=table), ("none", 1))


if __name__ == "__main__":
    unittest.main()
