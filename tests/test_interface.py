"""The interface: each name is defined in the file under which it stands, with its arguments."""

import inspect
import unittest

from crywalks import webs, webtexts

FUNCTIONS = {
    (webs, "is_name"): "(thing)",
    (webs, "is_count"): "(thing)",
    (webtexts, "web_text"): "(web)",
    (webtexts, "read_web"): "(text)",
}
WEB_METHODS = {
    "__init__": "(self, persons, ties=(), *, rounds=False)",
    "rounds": "(self)",
    "persons": "(self)",
    "ties": "(self)",
    "has_person": "(self, thing)",
    "has_tie": "(self, thing)",
    "has_spot": "(self, thing)",
    "state": "(self, spot)",
    "ends": "(self, tie)",
    "length": "(self, tie)",
    "hearers": "(self, tie)",
    "beside": "(self, person)",
    "parts": "(self)",
    "part": "(self, person)",
    "__eq__": "(self, other)",
    "__len__": "(self)",
    "__repr__": "(self)",
}


class Interface(unittest.TestCase):
    def test_functions(self):
        for (module, name), arguments in FUNCTIONS.items():
            with self.subTest(name=name):
                function = getattr(module, name)
                self.assertEqual(function.__module__, module.__name__)
                self.assertEqual(str(inspect.signature(function)), arguments)

    def test_methods_of_web(self):
        self.assertEqual(webs.Web.__module__, "crywalks.webs")
        for name, arguments in WEB_METHODS.items():
            with self.subTest(name=name):
                self.assertEqual(str(inspect.signature(vars(webs.Web)[name])), arguments)


if __name__ == "__main__":
    unittest.main()
