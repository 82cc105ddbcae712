"""pattern_text.py: texts of patterns, written and read (points 46 to 48)."""

import itertools
import random
import re
import unittest

from checks import CheckCase
from plain_patterns import ANY, EMPTY, KINDS, NEVER, NOT_A, SEE_A, SEE_B, chain_of, random_pattern, tree_of
from wirewatch.errors import BadPattern, BadText, TooLarge
from wirewatch.pattern_text import parse_pattern, pattern_text
from wirewatch.patterns import names_of, node_count

BINARY = (("or", "|"), ("both", "&"), ("then", ";"), ("fuse", ":"))
COUNTS = [(0, None, "*"), (1, None, "{1,}"), (9, None, "{9,}"), (0, 0, "{0}"), (1, 1, "{1}"), (9, 9, "{9}"),
          (0, 1, "{0,1}"), (0, 9, "{0,9}"), (2, 3, "{2,3}"), (8, 9, "{8,9}")]
# One node of each kind, with its text and the number of its line in point 46.
NODES = [
    (("or", SEE_A, SEE_B), "[a] | [b]", 1), (("both", SEE_A, SEE_B), "[a] & [b]", 2),
    (("then", SEE_A, SEE_B), "[a] ; [b]", 3), (("fuse", SEE_A, SEE_B), "[a] : [b]", 4),
    (("not", SEE_A), "~[a]", 5), (("times", SEE_A, 0, None), "[a]*", 6), (("times", SEE_A, 2, 3), "[a]{2,3}", 6),
    (("within", SEE_A, 4), "[a]@4", 6), (NOT_A, "[!a]", 7), (EMPTY, "empty", 7), (NEVER, "never", 7), (ANY, "[]", 7),
]
SEES = [((), "[]"), ((("a", 1),), "[a]"), ((("a", 0),), "[!a]"), ((("b", 1), ("a", 0), ("u1.q", 1)), "[b !a u1.q]"),
        ((("empty", 1), ("never", 0), ("a.empty", 0)), "[empty !never !a.empty]")]


class WrittenTest(CheckCase):
    def check(self, pattern, text):
        self.same(pattern_text(pattern), text)
        self.same(parse_pattern(text), pattern)

    def test_leaves(self):
        for lits, text in SEES:
            self.check(("see", lits), text)
        self.check(EMPTY, "empty")
        self.check(NEVER, "never")

    def test_counts(self):
        for low, high, text in COUNTS:
            self.check(("times", SEE_A, low, high), "[a]" + text)
        for most in range(10):
            self.check(("within", EMPTY, most), f"empty@{most}")

    def test_each_kind_below_each_other_kind(self):
        for node, text, number in NODES:
            for at, (kind, mark) in enumerate(BINARY, start=1):
                left = f"({text})" if number < at else text
                right = f"({text})" if number <= at else text
                self.check((kind, node, SEE_A), f"{left} {mark} [a]")
                self.check((kind, SEE_A, node), f"[a] {mark} {right}")
            for other, other_text, other_number in NODES:
                for at, (kind, mark) in enumerate(BINARY, start=1):
                    left = f"({text})" if number < at else text
                    right = f"({other_text})" if other_number <= at else other_text
                    self.check((kind, node, other), f"{left} {mark} {right}")
            self.check(("not", node), f"~({text})" if number < 5 else f"~{text}")
            inner = f"({text})" if number < 6 else text
            self.check(("times", node, 0, None), inner + "*")
            self.check(("times", node, 1, 2), inner + "{1,2}")
            self.check(("within", node, 7), inner + "@7")

    def test_many_patterns(self):
        source = random.Random(1)
        for _ in range(1500):
            pattern = random_pattern(source, source.randrange(1, 17), ("a", "b.c", "empty"))
            text = pattern_text(pattern)
            self.same(parse_pattern(text), pattern)
            self.same(pattern_text(pattern), text)
            # No parentheses can be left out.
            for left in [at for at, sign in enumerate(text) if sign == "("]:
                depth, right = 0, left
                while depth != 1 or text[right] != ")":
                    depth += {"(": 1, ")": -1}.get(text[right], 0)
                    right += 1
                without = text[:left] + text[left + 1:right] + text[right + 1:]
                self.assertNotEqual(PlainParser(without).result(), pattern)

    def test_errors(self):
        for pattern, code, node in ((("seen",), "kind", ("seen",)), (("not", ("see", (("A", 1),))), "wire",
                                                                     ("see", (("A", 1),)))):
            self.fails(BadPattern(code, node), pattern_text, pattern)
            self.fails(BadPattern(code, node), pattern_text, ("or", pattern, chain_of(30)))
        self.fails(TooLarge("nodes", 16), pattern_text, chain_of(17))
        self.fails(TooLarge("nodes", 16), pattern_text, tree_of(17, ("a", "b", "c", "d")))
        self.fails(TooLarge("names", 3), pattern_text, tree_of(7, ("a", "b", "c", "d")))
        self.same(pattern_text(chain_of(16)), "~" * 15 + "[a]")


class PlainParser:
    """The grammar of point 47 with one function for each line of point 46."""

    def __init__(self, text):
        self.text = text
        self.tokens = [(found.start(), found.group()) for found in re.finditer(r"[a-z0-9.]+|[^ ]", text)]
        self.tokens.append((len(text), ""))
        self.at = 0

    def fail(self, code=None, back=0):
        column, token = self.tokens[self.at - back]
        raise BadText(1, column + 1, code or ("token" if token else "missing"))

    def see(self):
        return self.tokens[self.at][1]

    def take(self, fits):
        token = self.see()
        if not token or not fits(token):
            self.fail()
        self.at += 1
        return token

    def result(self):
        try:
            return self.whole()
        except BadText as error:
            return error.line, error.column, error.code

    def whole(self):
        node = self.line(0)
        if self.see():
            self.fail()
        return node

    def line(self, number):
        if number == 4:
            return self.prefix()
        kind, mark = BINARY[number]
        node = self.line(number + 1)
        while self.see() == mark:
            self.at += 1
            node = (kind, node, self.line(number + 1))
        return node

    def prefix(self):
        if self.see() == "~":
            self.at += 1
            return ("not", self.prefix())
        node = self.leaf()
        while self.see() in ("*", "{", "@"):
            mark = self.take(lambda token: True)
            if mark == "*":
                node = ("times", node, 0, None)
            elif mark == "@":
                node = ("within", node, self.count())
            else:
                node = ("times", node, *self.counts())
        return node

    def count(self):
        return int(self.take(lambda token: re.fullmatch("[0-9]", token)))

    def counts(self):
        low = high = self.count()
        if self.take(lambda token: token in (",", "}")) == ",":
            high = None
            if self.see() != "}":
                high = self.count()
                if high < low:
                    self.fail("count", 1)
            self.take(lambda token: token == "}")
        return low, high

    def leaf(self):
        mark = self.take(lambda token: token in ("(", "[", "empty", "never"))
        if mark == "(":
            node = self.line(0)
            self.take(lambda token: token == ")")
            return node
        if mark != "[":
            return (mark,)
        lits = []
        while self.see() != "]":
            bit = 1
            if self.see() == "!":
                bit, self.at = 0, self.at + 1
            wire = self.take(lambda token: re.fullmatch(r"[a-z][a-z0-9]{0,7}(\.[a-z][a-z0-9]{0,7})*", token))
            if wire in [lit[0] for lit in lits]:
                self.fail("twice", 1)
            lits.append((wire, bit))
        self.at += 1
        return ("see", tuple(lits))


class ReadTest(CheckCase):
    def reads(self, text, pattern):
        self.same(parse_pattern(text), pattern)

    def refuses(self, text, column, code):
        self.fails(BadText(1, column, code), parse_pattern, text)

    def check(self, text):
        """The text is read as the plain parser reads it, or gives the same error."""
        due = PlainParser(text).result()
        if due[0] == 1:
            self.fails(BadText(*due), parse_pattern, text)
        elif node_count(due) > 16:
            self.fails(TooLarge("nodes", 16), parse_pattern, text)
        elif len(names_of(due)) > 3:
            self.fails(TooLarge("names", 3), parse_pattern, text)
        else:
            self.reads(text, due)
        return due

    def test_examples(self):
        self.reads("[a] ; ~[b]{2}", ("then", SEE_A, ("not", ("times", SEE_B, 2, 2))))
        self.refuses("[a !a]", 5, "twice")

    def test_binding(self):
        self.reads("[a] | [b] & [a] ; [b] : ~[a]*", ("or", SEE_A, ("both", SEE_B, ("then", SEE_A, (
            "fuse", SEE_B, ("not", ("times", SEE_A, 0, None)))))))
        self.reads("~[a]* : [b] ; [a] & [b] | [a]", ("or", ("both", ("then", ("fuse", (
            "not", ("times", SEE_A, 0, None)), SEE_B), SEE_A), SEE_B), SEE_A))
        for kind, mark in BINARY:
            self.reads(f"[a]{mark}[b]{mark}empty", (kind, (kind, SEE_A, SEE_B), EMPTY))
            self.reads(f"[a]{mark}([b]{mark}empty)", (kind, SEE_A, (kind, SEE_B, EMPTY)))
        self.reads("~~[a]", ("not", ("not", SEE_A)))
        self.reads("[a]*@3{1,2}", ("times", ("within", ("times", SEE_A, 0, None), 3), 1, 2))
        self.reads("~(~[a])*", ("not", ("times", ("not", SEE_A), 0, None)))
        self.reads("((([a])))", SEE_A)
        self.reads("((~([a]|[b]))*)@1", ("within", ("times", ("not", ("or", SEE_A, SEE_B)), 0, None), 1))

    def test_counts(self):
        for low, high, text in COUNTS:
            self.reads("[a]" + text, ("times", SEE_A, low, high))
        self.reads("[a]{0,}", ("times", SEE_A, 0, None))
        self.reads("[a]{2,2}", ("times", SEE_A, 2, 2))
        self.reads("[a]{0,0}", ("times", SEE_A, 0, 0))
        self.reads(" [a] { 1 , 2 } @ 3 * ", ("times", ("within", ("times", SEE_A, 1, 2), 3), 0, None))

    def test_spaces(self):
        for text, pattern in (
                ("[a];[b]", ("then", SEE_A, SEE_B)), ("  [ a ]  ;[  b]", ("then", SEE_A, SEE_B)),
                ("[a!b]", ("see", (("a", 1), ("b", 0)))),
                ("[ ! a   ! b ]", ("see", (("a", 0), ("b", 0)))),
                ("[a b!u.v]", ("see", (("a", 1), ("b", 1), ("u.v", 0)))),
                ("[]", ANY), ("[  ]", ANY), ("empty|never", ("or", EMPTY, NEVER)),
                (" ( empty ) ", EMPTY), ("~ ~ never", ("not", ("not", NEVER)))):
            self.reads(text, pattern)
        for lits, text in SEES:
            self.reads(text, ("see", lits))

    def test_wrong_tokens(self):
        for text, column in (
                (")", 1), ("]", 1), ("}", 1), (",", 1), (";", 1), ("*", 1), ("@1", 1), ("!a", 1), ("a", 1), ("5", 1),
                (".", 1), ("emptyx", 1), ("empty.never", 1), ("A", 1), ("#", 1), ("\n", 1), ("  \n", 3), ("{1}", 1),
                ("[a][b]", 4), ("[a] empty", 5), ("[a] [", 5), ("[a](", 4), ("[a]~[b]", 4), ("[a]!", 4), ("[a],", 4),
                ("[a]}", 4), ("[a]]", 4), ("[a])", 4), ("([a]))", 6), ("[a] a", 5), ("empty never", 7), ("[a]\n", 4),
                ("[a] ;; [b]", 6), ("[a] ; )", 7), ("[a] ; *", 7), ("([a] ;)", 7), ("()", 2), ("(])", 2), ("~)", 2),
                ("~*", 2), ("~|[a]", 2), ("~a", 2), ("~never1", 2),
                ("[A]", 2), ("[1]", 2), ("[a.]", 2), ("[.a]", 2), ("[a..b]", 2), ("[abcdefghi]", 2), ("[a.1]", 2),
                ("[!!a]", 3), ("[!]", 3), ("[a !]", 5), ("[a,b]", 3), ("[a ;]", 4), ("[a\n]", 3), ("[(a)]", 2),
                ("[a _]", 4), ("[a B]", 4), ("[[a]]", 2), ("[a 12]", 4), ("[~a]", 2), ("[!1 b]", 3),
                ("[a]{}", 5), ("[a]{,}", 5), ("[a]{,2}", 5), ("[a]{12}", 5), ("[a]{1a}", 5), ("[a]{a}", 5),
                ("[a]{*}", 5),
                ("[a]{1 2}", 7), ("[a]{1;}", 6), ("[a]{1]", 6), ("[a]{1,,}", 7), ("[a]{1,a}", 7), ("[a]{1,12}", 7),
                ("[a]{1,2,}", 8), ("[a]{1,2 3}", 9), ("[a]{1,2)", 8), ("[a]{-1}", 5), ("[a]{1,!}", 7), ("[a]{1.}", 5),
                ("[a]@12", 5), ("[a]@a", 5), ("[a]@@", 5), ("[a]@*", 5), ("[a]@{1}", 5), ("[a]@.", 5),
                ("[a]@1 2", 7), ("[a]* [b]", 6), ("[a]*~", 5), ("[a] @ 1.", 7)):
            self.refuses(text, column, "token")
            # Nothing behind the first mistake matters.
            self.refuses(text + " }\n([a A", column, "token")

    def test_missing(self):
        for text in ("", " ", "    ", "(", "((", "([a]", "([a] ", "([a] | [b]", "(([a])", "~", "~ ", "[a] |", "[a] & ",
                     "[a];", "[a] :", "[", "[ ", "[a", "[a ", "[!", "[a !", "[a ! ", "[a]{", "[a]{ ", "[a]{1", "[a]{1 ",
                     "[a]{1,", "[a]{1, ", "[a]{1,2", "[a]{1,2 ", "[a]@", "[a]@ ",
                     "([a]*", "([a]@1", "[a] | ~", "[a]|("):
            self.refuses(text, len(text) + 1, "missing")

    def test_twice(self):
        for text, column in (("[a a]", 4), ("[a !a]", 5), ("[!a a]", 5), ("[!a!a]", 5), ("[a b a]", 6),
                             ("[u.v b  !u.v c", 10), ("[empty empty", 8), ("[a a !", 4), ("[b] ; [a  a]", 11)):
            self.refuses(text, column, "twice")
        self.refuses("[a A a]", 4, "token")
        self.reads("[a] ; [a]", ("then", SEE_A, SEE_A))
        self.reads("[a aa a.a]", ("see", (("a", 1), ("aa", 1), ("a.a", 1))))

    def test_second_counts(self):
        for text, column in (("[a]{2,1}", 7), ("[a]{9,8}", 7), ("[a]{1,0", 7), ("[a] { 3 , 2 x", 11),
                             ("[a]{1,0 A}", 7)):
            self.refuses(text, column, "count")
        self.reads("[a]{1,1}", ("times", SEE_A, 1, 1))

    def test_sizes(self):
        self.reads("~" * 15 + "[a]", chain_of(16))
        for text in ("~" * 16 + "[a]", "~" * 60 + "[a]", "empty" + "*" * 60, "[a]" + ";[a]" * 8 + "*",
                     "[a b c d]" + "*" * 16, "(" * 30 + "~" * 30 + "[a]" + ")" * 30):
            self.fails(TooLarge("nodes", 16), parse_pattern, text)
        self.fails(TooLarge("names", 3), parse_pattern, "[a b c d]" + "*" * 15)
        self.fails(TooLarge("names", 3), parse_pattern, "[a] ; [b] ; [c] ; [!d]")
        # What cannot be read is not too large.
        self.refuses("~" * 60 + "a", 61, "token")
        self.refuses("[a b c d]" + "*" * 50 + "x", 60, "token")
        self.refuses("~" * 60, 61, "missing")

    def test_deep_parentheses(self):
        self.reads("(" * 60 + "[a]" + ")" * 60, SEE_A)
        self.refuses("(" * 60 + "[a]" + ")" * 59, 123, "missing")
        self.refuses("(" * 59 + "[a]" + ")" * 60, 122, "token")
        text = "~(" * 7 + "[a] | [b]" + ")" * 7
        self.check(text)
        # As much as may stand in one text, one within the other.
        self.check("(~" * 29 + "[a]*" + ")" * 29)
        self.check("([a]:" * 12 + "~[a]" + ")*" * 12)

    def test_all_short_texts(self):
        tokens = ("[a]", "[", "]", "(", ")", "~", "*", "{", "}", "@", ",", "2", "1", "|", ":", "empty", "a", "!", " ")
        for length in range(4):
            for parts in itertools.product(tokens, repeat=length):
                self.check(" ".join(parts) if length < 3 else "".join(parts))

    def test_random_texts(self):
        source = random.Random(2)
        tokens = ("[a]", "[a !b]", "[", "]", "(", "(", ")", ")", "~", "*", "{1}", "{2,}", "{", "}", "@3", "@", ",", "2",
                  "|", "&", ";", ":", ";", ":", "empty", "never", "a", "u.v", "!", "", "", " ", "A", "\n", "{3,2}")
        codes = set()
        for _ in range(6000):
            text = source.choice(("", " ")).join(source.choice(tokens) for _ in range(source.randrange(1, 9)))
            due = self.check(text)
            codes.add(due[2] if due[0] == 1 else "good")
        self.assertLessEqual({"good", "token", "missing", "count"}, codes)

    def test_bent_texts(self):
        source = random.Random(3)
        codes = {}
        for _ in range(6000):
            text = pattern_text(random_pattern(source, source.randrange(1, 12), ("a", "b.c", "empty")))
            at = source.randrange(len(text))
            sign = source.choice("[](){},;:&|~*@! ab.1209AZ%\n_")
            bent = source.choice((text[:at], text[:at] + sign + text[at:], text[:at] + text[at + 1:],
                                  text[:at] + sign + text[at + 1:]))
            due = self.check(bent)
            code = due[2] if due[0] == 1 else "good"
            codes[code] = codes.get(code, 0) + 1
        self.assertEqual(set(codes), {"good", "token", "missing", "twice", "count"})

    def test_kinds(self):
        """Each kind of node is read somewhere."""
        found = {node[0] for node, _, _ in NODES}
        self.assertEqual(found, set(KINDS))


if __name__ == "__main__":
    unittest.main()
