"""The form of the code: those rules of the language subset that a test can see plainly."""

import ast
import builtins
import pathlib
import unittest

FOLDER = pathlib.Path(__file__).resolve().parent.parent / "wirewatch"
BUILTINS = set("""len range enumerate zip min max sum abs sorted reversed int str bool list tuple
    dict set isinstance ord repr any all divmod iter ValueError""".split())
METHODS = set("""append clear copy count endswith extend find get index insert isalnum isalpha
    isdigit islower isspace isupper items join keys ljust lower lstrip partition pop remove replace
    reverse rfind rjust rpartition rsplit rstrip setdefault split splitlines startswith strip update
    upper values zfill bit_length add discard""".split())
NO_ATTRIBUTES = METHODS - set("count index title find get join lower upper split strip copy add".split())
BARRED = (ast.AsyncFunctionDef, ast.Await, ast.Global, ast.Div, ast.GeneratorExp,
          ast.Yield, ast.YieldFrom, ast.Try, ast.AnnAssign, ast.SetComp)
WORDS = set("""type typing enum Enum Flag Generic Protocol ABC dataclass overload eval exec open
    input globals locals vars dir breakpoint compile law mro elements register""".split())


def files():
    return sorted(path for path in FOLDER.rglob("*") if "__pycache__" not in path.parts)


def trees():
    return [(path.name, ast.parse(path.read_text())) for path in files()]


def functions(tree):
    return [node for node in ast.walk(tree) if isinstance(node, ast.FunctionDef)]


class FormTest(unittest.TestCase):
    def test_files(self):
        self.assertTrue(files())
        for path in files():
            self.assertEqual(path.parent, FOLDER)
            self.assertRegex(path.name, r"^(__init__|[a-z_]+)\.py$")
            text = path.read_text()
            lines = text.split("\n")
            self.assertLessEqual(len(lines) - 1, 399, path.name)
            for line in lines:
                self.assertLessEqual(len(line), 120, (path.name, line))
                self.assertTrue(all(" " <= sign <= "~" for sign in line), (path.name, line))

    def test_sizes_of_functions(self):
        for name, tree in trees():
            for node in functions(tree):
                self.assertLessEqual(node.end_lineno - node.lineno + 1, 40, (name, node.name))

    def test_imports(self):
        own = {path.stem for path in files()}
        for name, tree in trees():
            for node in ast.walk(tree):
                self.assertNotIsInstance(node, ast.Import, name)
                if isinstance(node, ast.ImportFrom):
                    folder, _, file = node.module.partition(".")
                    self.assertEqual((node.level, folder), (0, "wirewatch"), name)
                    self.assertIn(file, own, name)
                    self.assertIn(node, tree.body, name)
                    self.assertTrue(all(alias.name != "*" for alias in node.names), name)

    def test_imports_name_the_file_that_defines_the_name(self):
        defined = {}
        for name, tree in trees():
            for node in tree.body:
                names = [node.name] if hasattr(node, "name") else []
                if isinstance(node, ast.Assign):
                    names = [target.id for target in node.targets]
                defined.setdefault(name, set()).update(names)
        for name, tree in trees():
            for node in tree.body:
                if isinstance(node, ast.ImportFrom):
                    file = node.module.partition(".")[2] + ".py"
                    self.assertLessEqual({alias.name for alias in node.names}, defined[file], name)

    def test_parts_that_are_not_used(self):
        for name, tree in trees():
            for node in ast.walk(tree):
                self.assertNotIsInstance(node, BARRED, name)
                if isinstance(node, ast.Constant):
                    self.assertNotIsInstance(node.value, (float, complex, bytes), name)
                    self.assertNotIn("%", str(node.value), name)

    def test_module_level(self):
        for name, tree in trees():
            for node in tree.body:
                self.assertIsInstance(node, (ast.Expr, ast.ImportFrom, ast.FunctionDef,
                                             ast.ClassDef, ast.Assign), name)
                if isinstance(node, ast.Expr):
                    self.assertIs(node, tree.body[0], name)
                if isinstance(node, ast.Assign):
                    own = {part.name for part in functions(tree)}
                    used = {part.id for part in ast.walk(node.value) if isinstance(part, ast.Name)}
                    self.assertLessEqual(used, own, name)

    def test_decorators(self):
        for name, tree in trees():
            for node in functions(tree):
                found = [ast.unparse(part) for part in node.decorator_list]
                self.assertLessEqual(set(found), {"property", "classmethod"}, name)
                self.assertIsNone(node.returns, name)

    def test_names(self):
        known = set(dir(builtins))
        for name, tree in trees():
            own_methods = {node.name for _, other in trees() for node in functions(other)}
            for node in ast.walk(tree):
                if isinstance(node, ast.Name) and isinstance(node.ctx, ast.Load):
                    if node.id in known:
                        self.assertIn(node.id, BUILTINS | {"property", "classmethod"}, name)
                if isinstance(node, ast.Name) and isinstance(node.ctx, ast.Store):
                    self.assertNotIn(node.id, known, name)
                    self.assertNotIn(node.id, WORDS, name)
                if isinstance(node, (ast.FunctionDef, ast.ClassDef)):
                    self.assertNotIn(node.name, known | WORDS, name)
                if isinstance(node, ast.arg):
                    self.assertNotIn(node.arg, known | WORDS, name)
                if isinstance(node, ast.Call) and isinstance(node.func, ast.Attribute):
                    self.assertIn(node.func.attr, METHODS | own_methods, name)

    def test_attributes(self):
        """No attribute has the name of a property, or of a method of its class."""
        properties, assigned = set(), set()
        for name, tree in trees():
            for part in tree.body:
                if not isinstance(part, ast.ClassDef):
                    continue
                methods = {node.name for node in functions(part)}
                own = {node.attr for node in ast.walk(part)
                       if isinstance(node, ast.Attribute) and isinstance(node.ctx, ast.Store)}
                self.assertFalse(methods & own, (name, part.name))
                self.assertFalse(own & NO_ATTRIBUTES, (name, part.name))
                assigned |= own
                properties |= {node.name for node in functions(part)
                               if any(ast.unparse(mark) == "property" for mark in node.decorator_list)}
        self.assertIn("last_state", properties)
        self.assertFalse(properties & assigned)
        methods = {node.name for _, tree in trees() for part in tree.body if isinstance(part, ast.ClassDef)
                   for node in functions(part)}
        self.assertFalse(methods & assigned)

    def test_each_name_is_bound_once(self):
        for name, tree in trees():
            bound = []
            for node in tree.body:
                if isinstance(node, ast.Assign):
                    bound += [target.id for target in node.targets]
                elif isinstance(node, ast.ImportFrom):
                    bound += [alias.name for alias in node.names]
                elif not isinstance(node, ast.Expr):
                    bound.append(node.name)
            self.assertEqual(len(bound), len(set(bound)), name)

    def test_local_names_hide_nothing(self):
        for name, tree in trees():
            barred = {node.name for node in tree.body if isinstance(node, ast.ClassDef)}
            for node in tree.body:
                if isinstance(node, ast.ImportFrom):
                    barred |= {alias.name for alias in node.names}
            for node in functions(tree):
                local = {part.arg for part in ast.walk(node) if isinstance(part, ast.arg)}
                local |= {part.id for part in ast.walk(node)
                          if isinstance(part, ast.Name) and isinstance(part.ctx, ast.Store)}
                self.assertFalse(local & barred, (name, node.name))


if __name__ == "__main__":
    unittest.main()
