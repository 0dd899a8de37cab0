"""The interface: where each name is defined, its arguments, and the examples as they are written."""

import importlib
import inspect
import os
import unittest

from shearyard.beds import Bed
from shearyard.errors import YardError
from tests.reference import BED

SIGNATURES = {
    "beds": {"Bed": "(*kinds)"},
    "plants": {
        "check_plant": "(bed, plant)", "plant_key": "(bed, plant)", "height": "(bed, plant)",
        "counted": "(bed, plant)", "branches_of": "(bed, plant)", "planted": "(bed, kind, *below)",
        "paths": "(bed, plant)", "branch_at": "(bed, plant, path)", "replaced": "(bed, plant, path, other)",
    },
    "stumps": {
        "check_stump": "(bed, stump)", "stump_key": "(bed, stump)", "holes": "(bed, stump)",
        "filled": "(bed, stump, *pieces)", "begins": "(bed, stump, other)", "parts": "(bed, stump, other)",
        "common": "(bed, first, *others)", "united": "(bed, first, second)",
    },
    "texts": {"written": "(bed, stump)", "read_stump": "(bed, text)", "read_plant": "(bed, text)"},
    "growing": {"plants_of": "(bed, knots)", "plants_upto": "(bed, knots)", "number_of": "(bed, knots)"},
    "readers": {"Reader": "(bed, states, rows, marks, *, otherwise=0)"},
    "canon": {"least_plants": "(reader)", "canonical": "(reader)", "least_in": "(reader)"},
    "lots": {
        "all_of": "(first, *others)", "any_of": "(first, *others)", "without": "(first, second)",
        "complement": "(reader)", "apart": "(first, second)", "escaped": "(first, second)",
        "only": "(bed, plant)", "everything": "(bed)",
    },
    "counting": {"number_in": "(reader, knots)", "each_in": "(reader, knots)", "finite": "(reader)"},
    "closed": {"closed_pairs": "(first, second)", "is_closed": "(first, second, pairs)"},
    "gardeners": {
        "Gardener": "(bed, name)", "Gate": "(reader, *, name='gate')",
        "Shear": "(bed, states, rows, *, start=0, name='shear')",
    },
    "chains": {"chained": "(first, second)"},
    "backward": {"before": "(reader, shear)"},
    "forward": {"image": "(reader, shear)"},
    "gardens": {"Garden": "(bed, *gardeners, name='garden')"},
    "oneness": {"admitted": "(garden)", "one_shear": "(garden)", "as_one": "(garden)"},
    "comings": {
        "comes_from": "(garden, reader)", "outcomes": "(garden, reader)", "unmarked": "(garden, reader)",
        "sources": "(garden, plant)",
    },
    "alike": {
        "parting": "(first, second)", "same": "(first, second)", "alike_paper": "(first, second)",
        "is_alike_paper": "(first, second, paper)",
    },
    "earliness": {"sure": "(shear, state)", "earliest": "(shear)", "regrown": "(bed, form)"},
    "ordering": {
        "orders": "(bed, *gardeners)", "any_order": "(bed, *gardeners)", "settles": "(garden, *, most=4)",
        "undone": "(first, second)",
    },
    "trims": {"Trim": "(bed, stump, result)", "Trims": "(bed, *trims, name='trims')"},
    "trimming": {
        "spots": "(trims, plant)", "cut_at": "(trims, plant, path, index)", "way": "(trims, plant, *, last=False)",
        "end": "(trims, plant, *, last=False)", "walked": "(trims, plant, spots)", "ends": "(trims, plant)",
        "fewest": "(trims, plant)",
    },
    "peaking": {
        "peaks": "(trims)", "ends_alike": "(trims)", "two_ways": "(trims)", "meetings": "(trims)",
        "is_meeting_paper": "(trims, paper)", "joined": "(trims, first, second)",
    },
    "trimlinks": {
        "finished_reader": "(trims)", "changing": "(trims, reader)", "disturbed": "(shear, trims)",
    },
    "pictures": {
        "Picture": "(bed)", "WholePicture": "(bed, plant)", "StumpPicture": "(bed, stump)",
        "CrownPicture": "(bed, plant)", "WindowPicture": "(bed, stump)",
        "CountPicture": "(bed, kind, modulus, rest)", "HeightPicture": "(bed, height, *, slack=1)",
    },
    "viewing": {
        "seen": "(bed, *pictures)", "left": "(reader)", "views": "(garden, *pictures)",
        "surely_seen": "(garden, picture)",
    },
    "windows": {
        "kinds_above": "(reader, stump)", "kinds_below": "(reader, stump)", "sure_above": "(reader, stump)",
        "sure_below": "(reader, stump)", "grown": "(reader, stump)", "witness": "(reader, stump, *, under=None)",
    },
    "accounts": {"account": "(garden, plant)"},
    "weighing": {
        "always": "(garden)", "holds_always": "(garden, weighing)", "breaking": "(garden, weighing)",
        "span": "(garden)", "is_span": "(garden, plants)",
    },
    "heavy": {"heaviest": "(reader, weights)"},
    "prices": {
        "Prices": "(bed, cutting, *swaps)", "price": "(prices, plant, other)",
        "cheapest": "(prices, plant, reader)", "nearest": "(prices, first, second)",
    },
    "cards": {
        "Card": "(bed, name)",
        "HiddenShear": "(bed, states, rows, hidden, *, start=0, name='hidden shear')",
        "HiddenGate": "(bed, states, rows, hidden, marks, *, otherwise=0, name='hidden gate')",
        "HiddenGarden": "(bed, *gardeners, name='hidden')",
    },
    "cases": {"Case": "(garden)"},
    "bench": {"Bench": "(bed, plant, *, trims=None, budget=100)"},
    "plain": {
        "plain_parting": "(first, second, knots)", "plain_unmarked": "(garden, reader, knots)",
        "plain_two_ends": "(trims, knots)", "plain_breaking": "(garden, weighing, knots)",
        "plain_change": "(prices, plant, reader, knots)",
    },
}
PICTURE = {"fits": "(self, plant)", "as_reader": "(self)", "caption": "(self)"}
CARD = {"menu": "(self)", "filled": "(self, choice)"}
METHODS = {
    ("beds", "Bed"): {
        "leaves": "(self)", "branches": "(self, kind)", "rank": "(self, kind)", "same": "(self, other)",
        "written": "(self)",
    },
    ("readers", "Reader"): {
        "step": "(self, kind, below)", "state_of": "(self, plant)", "states_of": "(self, plant)", "table": "(self)",
        "__contains__": "(self, plant)",
    },
    ("gardeners", "Gardener"): {"work": "(self, plant)"},
    ("gardeners", "Gate"): {"work": "(self, plant)"},
    ("gardeners", "Shear"): {
        "work": "(self, plant)", "__call__": "(self, plant)", "work_from": "(self, plant, state)",
        "step": "(self, state, kind)", "table": "(self)", "reached": "(self)",
    },
    ("gardens", "Garden"): {
        "__call__": "(self, plant)", "stages": "(self, plant)", "admits": "(self, plant)", "__len__": "(self)",
        "__add__": "(self, other)",
    },
    ("trims", "Trims"): {"__len__": "(self)"},
    **{("pictures", name): PICTURE for name in SIGNATURES["pictures"]},
    **{("cards", name): CARD for name in ("Card", "HiddenShear", "HiddenGate")},
    ("cards", "HiddenGarden"): {"menu": "(self)", "choices": "(self)", "filled": "(self, choice)"},
    ("cases", "Case"): {
        "looked": "(self, name, picture)", "went": "(self, name, other)", "refused": "(self, name)",
        "always": "(self, reader)", "choices": "(self)", "__len__": "(self)", "open_options": "(self)",
        "groups": "(self)", "settled": "(self)", "question": "(self)", "possible": "(self, name, reader)",
        "sure": "(self, name, reader)", "plants": "(self, name)", "outcomes_of": "(self, plant)",
        "surely": "(self, plant)", "facts": "(self)", "undo": "(self)", "copy": "(self)",
    },
    ("bench", "Bench"): {
        "shear": "(self, gardener)", "lead": "(self, garden)", "cut": "(self, path, index)", "finish": "(self)",
        "graft": "(self, path, plant)", "back": "(self, name)", "undo": "(self)", "redo": "(self)",
        "change": "(self, budget)", "watch": "(self, reader)", "mark": "(self, name)", "names": "(self)",
        "try_all": "(self, *steps)", "log": "(self)", "report": "(self)", "twin": "(self)",
    },
}
CLASS_METHODS = {
    ("beds", "Bed"): {"read": "(text)"}, ("gardeners", "Shear"): {"keeping": "(bed)", "mirror": "(bed)"},
}
PROPERTIES = {("beds", "Bed"): ("leaf",), ("gardeners", "Shear"): ("copies", "drops"), ("bench", "Bench"): ("budget",)}
EXAMPLES = (
    """
>>> from shearyard.beds import Bed
>>> Bed.read("leaf/0 fork/2").rows
(('leaf', 0), ('fork', 2))
""",
    """
>>> from shearyard.beds import Bed
>>> Bed(("leaf", 0), ("fork", 2), ("leaf", 1))
raises InvalidBed(place=2)
""",
    """
>>> from shearyard.plants import check_plant
>>> check_plant(BED, ("fork", "leaf"))
raises InvalidPlant(place=2)
""",
    """
>>> from shearyard.plants import replaced
>>> replaced(BED, ("fork", "twig", "bud", "leaf"), (0,), ("leaf",))
('fork', 'leaf', 'leaf')
""",
    """
>>> from shearyard.stumps import common
>>> common(BED, ("fork", "bud", "leaf"), ("fork", "twig", "bud", "leaf"))
('fork', '*', 'leaf')
""",
    """
>>> from shearyard.texts import written
>>> written(BED, ("fork", "twig", "bud", "*"))
'fork(twig(bud),*)'
""",
    """
>>> from shearyard.growing import plants_upto
>>> list(plants_upto(BED, 2))
[('leaf',), ('bud',), ('twig', 'leaf'), ('twig', 'bud')]
""",
    """
>>> from shearyard.readers import Reader
>>> from shearyard.closed import closed_pairs
>>> odd = Reader(BED, 2, (("leaf", (), 1), ("bud", (), 1), ("twig", (0,), 1), ("fork", (0, 0), 1), """
    """("fork", (1, 1), 1)), (1,))
>>> closed_pairs(odd, odd)
((0, 0), (1, 1))
""",
    """
>>> from shearyard.gardeners import Shear
>>> twice = Shear(BED, 1, ((0, "twig", ("fork", (0, 0), (0, 0))),))
>>> twice(("twig", "twig", "bud")), twice.copies
(('fork', 'fork', 'bud', 'bud', 'fork', 'bud', 'bud'), True)
""",
    """
>>> from shearyard.gardeners import Shear
>>> from shearyard.gardens import Garden
>>> from shearyard.comings import outcomes
>>> from shearyard.readers import Reader
>>> twice = Shear(BED, 1, ((0, "twig", ("fork", (0, 0), (0, 0))),))
>>> alike = Reader(BED, 3, (("leaf", (), 1), ("bud", (), 1), ("twig", (0,), 0), ("twig", (1,), 2)), (1,))
>>> outcomes(Garden(BED, twice), alike)
(('twig', 'leaf'), ('leaf',), None)
""",
    """
>>> from shearyard.gardeners import Shear
>>> from shearyard.gardens import Garden
>>> from shearyard.alike import parting
>>> mirror = Garden(BED, Shear.mirror(BED))
>>> parting(mirror, Garden(BED)), parting(mirror + mirror, Garden(BED))
(('fork', 'leaf', 'bud'), None)
""",
    """
>>> from shearyard.gardeners import Shear
>>> from shearyard.earliness import sure
>>> sure(Shear(BED, 2, ((0, "leaf", ("twig", "leaf")), (0, "bud", ("twig", "bud")), (0, "twig", ("twig", (1, 0))), """
    """(0, "fork", ("twig", "leaf")))), 0)
('twig', '*')
""",
    """
>>> from shearyard.trims import Trim, Trims
>>> from shearyard.trimming import spots, ends
>>> trims = Trims(BED, Trim(BED, ("fork", "bud", "*"), (0,)), Trim(BED, ("fork", "*", "bud"), (0,)))
>>> spots(trims, ("fork", "bud", "bud")), ends(trims, ("fork", "bud", "fork", "leaf", "bud"))
((((), 0), ((), 1)), (('leaf',),))
""",
    """
>>> from shearyard.trims import Trim, Trims
>>> from shearyard.peaking import peaks
>>> peaks(Trims(BED, Trim(BED, ("twig", "twig", "*"), ("bud",))))
((('twig', 'twig', 'twig', 0), 0, (0,), 0),)
""",
    """
>>> from shearyard.lots import everything
>>> from shearyard.windows import kinds_above, witness
>>> kinds_above(everything(BED), ("bud",))
(None, ('twig', 0), ('fork', 0), ('fork', 1))
""",
    """
>>> from shearyard.lots import everything
>>> from shearyard.windows import witness
>>> witness(everything(BED), ("bud",), under=("fork", 1))
(('fork', 'leaf', 'bud'), (1,))
""",
    """
>>> from shearyard.gardens import Garden
>>> from shearyard.weighing import always
>>> always(Garden(Bed(("leaf", 0), ("fork", 2))))
((1, 0, 0, -1, 1), (0, 1, 0, -1, 0), (0, 0, 1, -1, 1))
""",
)
# For each file some objects of its classes, and the attributes that the interface lists for them.
OBJECTS = (
    ("Bed(('leaf', 0))", "rows kinds leaf"),
    ("Reader(BED, 1, (), (0,))", "bed states marks"),
    ("Gardener(BED, 'by')", "bed name"),
    ("Gate(Reader(BED, 1, (), (0,)))", "bed name reader"),
    ("Shear(BED, 1, ())", "bed name states start copies drops"),
    ("Garden(BED)", "bed gardeners name"),
    ("Trim(BED, ('twig', '*'), (0,))", "bed stump result"),
    ("Trims(BED)", "bed trims name"),
    ("Picture(BED)", "bed"),
    ("WholePicture(BED, ('leaf',))", "bed"),
    ("StumpPicture(BED, ('leaf',))", "bed"),
    ("CrownPicture(BED, ('leaf',))", "bed"),
    ("WindowPicture(BED, ('leaf',))", "bed"),
    ("CountPicture(BED, 'bud', 2, 0)", "bed"),
    ("HeightPicture(BED, 3)", "bed"),
    ("Prices(BED, 3, ('leaf', 'bud', 1))", "bed cutting swaps"),
    ("Card(BED, 'blank')", "bed name"),
    ("HiddenShear(BED, 1, (), ())", "bed name states hidden"),
    ("HiddenGate(BED, 1, (), (), (0,))", "bed name states hidden"),
    ("HiddenGarden(BED)", "bed gardeners name"),
    ("Case(HiddenGarden(BED))", "garden"),
    ("Bench(BED, ('leaf',))", "bed plant trims budget"),
)
SUBCLASSES = {
    ("gardeners", "Gardener"): ("Gate", "Shear"), ("cards", "Card"): ("HiddenShear", "HiddenGate"),
    ("pictures", "Picture"): (
        "WholePicture", "StumpPicture", "CrownPicture", "WindowPicture", "CountPicture", "HeightPicture",
    ),
}


def told(row, names):
    """What an example's row shows."""
    try:
        return repr(eval(row, names))
    except YardError as error:
        values = ", ".join([f"{name}={value!r}" for name, value in vars(error).items()])
        return f"raises {error.__class__.__name__}({values})"


class Interface(unittest.TestCase):
    def test_names_and_arguments(self):
        for file, functions in SIGNATURES.items():
            module = importlib.import_module(f"shearyard.{file}")
            for name, signature in functions.items():
                with self.subTest(f"{file}.{name}"):
                    value = getattr(module, name)
                    self.assertEqual(str(inspect.signature(value)), signature)
                    self.assertEqual((value.__module__, value.__name__), (f"shearyard.{file}", name))

    def test_methods_stand_in_the_class_itself(self):
        for (file, name), methods in METHODS.items():
            body = vars(getattr(importlib.import_module(f"shearyard.{file}"), name))
            for method, signature in methods.items():
                with self.subTest(f"{name}.{method}"):
                    self.assertEqual(str(inspect.signature(body[method])), signature)

    def test_class_methods(self):
        for (file, name), methods in CLASS_METHODS.items():
            owner = getattr(importlib.import_module(f"shearyard.{file}"), name)
            for method, signature in methods.items():
                self.assertIsInstance(vars(owner)[method], classmethod)
                self.assertEqual(str(inspect.signature(getattr(owner, method))), signature)

    def test_properties(self):
        for (file, name), properties in PROPERTIES.items():
            for value in properties:
                body = vars(getattr(importlib.import_module(f"shearyard.{file}"), name))
                self.assertIsInstance(body[value], property)

    def test_attributes(self):
        names = {"BED": BED}
        for file, functions in SIGNATURES.items():
            module = importlib.import_module(f"shearyard.{file}")
            names.update({name: getattr(module, name) for name in functions})
        for text, attributes in OBJECTS:
            made = eval(text, names)
            for attribute in attributes.split():
                with self.subTest(text, attribute=attribute):
                    getattr(made, attribute)
        self.assertEqual({text.split("(")[0] for text, _ in OBJECTS}, {
            name for file, functions in SIGNATURES.items() for name in functions if name[0].isupper()
        })

    def test_direct_subclasses(self):
        for (file, base), below in SUBCLASSES.items():
            module = importlib.import_module(f"shearyard.{file}")
            for name in below:
                self.assertEqual(getattr(module, name).__bases__, (getattr(module, base),))

    def test_examples(self):
        for example in EXAMPLES:
            names = {"BED": BED, "Bed": Bed}
            *rows, wanted = example.strip().split("\n")
            for row in rows[:-1]:
                exec(row.removeprefix(">>> "), names)
            self.assertEqual(told(rows[-1].removeprefix(">>> "), names), wanted)

    def test_the_package_holds_nothing_but_python_files(self):
        folder = os.path.dirname(importlib.import_module("shearyard").__file__)
        others = [name for name in os.listdir(folder) if not name.endswith(".py") and name != "__pycache__"]
        self.assertEqual(others, [])
        self.assertIn("__init__.py", os.listdir(folder))
