"""The sizes and signs that the package's files keep to."""

import ast
import pathlib
import re
import unittest

FOLDER = pathlib.Path(__file__).resolve().parent.parent / "bridgebids"

NOT_USED = re.compile(
    r"\b(type|typing|typing_extensions|enum|Enum|IntEnum|StrEnum|Flag|IntFlag|Generic|Protocol|ABC|ABCMeta|namedtuple"
    r"|NamedTuple|TypedDict|TYPE_CHECKING|abstractmethod|register|mro|elements|open|input)\b"
    r"|dataclass|overload|contextmanager")


class Language(unittest.TestCase):

    def sources(self):
        paths = sorted(path for path in FOLDER.iterdir() if path.name != "__pycache__")
        self.assertIn(FOLDER / "table.py", paths)
        self.assertTrue(all(path.suffix == ".py" for path in paths))
        return [(path.name, path.read_bytes().decode("ascii")) for path in paths]

    def test_sizes_and_signs(self):
        for name, text in self.sources():
            rows = text.split("\n")
            self.assertLessEqual(len(rows), 400, name)
            for row in rows:
                self.assertLessEqual(len(row), 120, name)
                self.assertTrue(all(" " <= sign <= "~" for sign in row), name)
            self.assertIsNone(NOT_USED.search(text), name)

    def test_defs(self):
        for name, text in self.sources():
            for node in ast.walk(ast.parse(text)):
                if isinstance(node, ast.FunctionDef):
                    self.assertLessEqual(node.end_lineno - node.lineno + 1, 40, (name, node.name))
                    self.assertEqual(node.decorator_list, [], (name, node.name))

    def test_imports(self):
        for name, text in self.sources():
            for node in ast.walk(ast.parse(text)):
                self.assertNotIsInstance(node, ast.Import, name)
                if isinstance(node, ast.ImportFrom):
                    self.assertTrue(node.module.startswith("bridgebids."), name)
                    self.assertEqual(node.level, 0, name)


if __name__ == "__main__":
    unittest.main()
