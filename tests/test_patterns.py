"""Promise 8: pattern, and how a pattern is written and read."""

import itertools
import re
import unittest

from tests.helper import FAR_OUT, codes, editor_after, last, pattern, run

ANY = ([], True)
NAMES = {2: "begin", 3: "end", 4: "(", 5: ")"}


def sign(character):
    return ([(ord(character), ord(character))], False)


def one(character):
    return (sign(character), 1, 1, "greedy")


def stretches(*pairs):
    return [(ord(pair[0]), ord(pair[-1])) for pair in pairs]


def items_of(text):
    """Each item as a name, or as its unit, its least and greatest times and its way."""
    found = []
    for item in editor_after(pattern(text)).pattern.pattern_items:
        if item.kind in NAMES:
            found.append(NAMES[item.kind])
        else:
            way = "greedy" if item.greedy else "sparing"
            found.append(((item.unit.stretches, item.unit.denied), item.least, item.greatest, way))
    return found


class PatternAnswersTest(unittest.TestCase):

    def answer(self, text, expected):
        self.assertEqual(last(pattern(text)), expected, text)

    def refused(self, *texts):
        for text in texts:
            self.answer(text, [-6])

    def test_the_documents_examples(self):
        self.answer("([0-9]{1,2})/([0-9]{2,2})", [7, 2])
        self.answer("a{0,3}~b*", [3, 0])
        self.answer("colou{0,1}r", [6, 0])

    def test_lengths(self):
        self.refused("", "[" + "a" * 199 + "]", "a" * 2000)
        self.answer("a", [1, 0])
        self.answer("[" + "a" * 198 + "]", [1, 0])

    def test_numbers_outside_the_range(self):
        for number in (31, 127, 10, 0, -1) + FAR_OUT:
            self.refused([number], [97, number], [number, 97], [92, number], [91, number, 93])
        self.answer([32], [1, 0])
        self.refused([126])
        self.answer([92, 126], [1, 0])

    def test_how_many_items(self):
        self.answer("a" * 40, [40, 0])
        self.refused("a" * 41, "<" * 41, "(a)" + "b" * 38)
        self.answer("(a)" + "b" * 37, [40, 1])

    def test_how_many_groups(self):
        self.answer("(a)" * 9, [27, 9])
        self.refused("(a)" * 10)

    def test_groups(self):
        self.answer("(a)b(c)", [7, 2])
        self.answer("(<)(>)", [6, 2])
        self.answer("(*)", [3, 1])
        self.refused("(", ")", "()", "(a", "a)", ")a(", "((a))", "(a(b)c)", "(a(b)", "(a))", "a()", "(a)()", "(a)(")

    def test_brackets_that_are_no_groups(self):
        self.answer("\\(a", [2, 0])
        self.answer("a\\)", [2, 0])
        self.answer("[()]", [1, 0])
        self.refused("(\\)", "([)]", "(a\\)")
        self.answer("(\\))", [3, 1])

    def test_escapes(self):
        for number in range(32, 127):
            self.answer([92, number], [1, 0])
        self.refused("\\", "a\\", "\\\\\\")

    def test_characters_that_do_not_stand_for_themselves(self):
        self.refused("]", "{", "}", "@", "~", "a]", "a}", "a~", "[a]]")

    def test_every_other_character(self):
        for number in range(32, 127):
            if chr(number) not in "\\[](){}@~":
                self.answer([number], [1, 0])

    def test_times(self):
        for text in ("a@", "a@~", "a{0,1}", "a{1,1}", "a{00,01}", "a{0,99}~", "?@", "?{1,2}~", "[a]@", "[!a]{2,3}",
                     "\\*@", "\\n{1,2}", "\\@@", " @", ",{1,2}"):
            self.answer(text, [1, 0])

    def test_wrong_times(self):
        self.refused("a{0,0}", "a{00,00}", "a{2,1}", "a{99,98}", "a{1}", "a{,1}", "a{1,}", "a{}", "a{,}", "a{1,2",
                     "a{1,", "a{1", "a{", "a{100,101}", "a{1,100}", "a{001,2}", "a{ 1,2}", "a{1, 2}", "a{1 ,2}",
                     "a{1,2 }", "a{a,2}", "a{1,b}", "a{-1,2}", "a{1-2}", "a{1,2]", "a{1,2,3}")

    def test_times_stand_behind_a_unit_once(self):
        self.refused("@", "~", "{1,2}", "a@@", "a@{1,2}", "a{1,2}@", "a{1,2}{1,2}", "a@~~", "a@~@", "a~@", "a{1,2}~~")

    def test_times_do_not_stand_behind_other_items(self):
        for before in ("<", ">", "*", "a*", "(a)"):
            for behind in ("@", "~", "{1,2}", "@~", "{1,2}~"):
                self.refused(before + behind)
        self.refused("(@a)", "({1,2}a)")

    def test_sets(self):
        for text in ("[a]", "[!a]", "[abc]", "[a-z]", "[a-a]", "[a-z0-9]", "[!a-z_]", "[ ]", "[[]", "[\\]]", "[\\-]",
                     "[\\!]", "[!\\!]", "[\\\\]", "[a\\-z]", "[\\a-\\z]", "[?*<>(){}@~]", "[ -~]", "[a-b\\-]",
                     "[,-\\-]"):
            self.answer(text, [1, 0])

    def test_wrong_sets(self):
        self.refused("[", "[]", "[!", "[!]", "[a", "[!a", "[a-", "[a-]", "[-a]", "[a-b-c]", "[b-a]", "[a!]", "[!!a]",
                     "[!-a]", "[a-!]", "[!!]", "[--a]", "[a\\", "[a\\]", "[\\", "[a-\\", "[a-\\]", "[a-]]", "[]a]",
                     "[a--]", "[,--]", "[-]", "[a-\\]]")
        self.answer("[A-\\]]", [1, 0])

    def test_refused_pattern_leaves_the_one_before(self):
        kept = editor_after(pattern("(a)b"), pattern("(a")).pattern
        self.assertEqual((len(kept.pattern_items), kept.group_count), (4, 1))
        self.assertIsNone(editor_after(pattern("(a")).pattern)

    def test_each_pattern_takes_the_place_of_the_one_before(self):
        self.assertEqual(run(pattern("(a)b"), pattern("c")), [[4, 1], [1, 0]])
        kept = editor_after(pattern("(a)b"), pattern("c")).pattern
        self.assertEqual((len(kept.pattern_items), kept.group_count), (1, 0))


class PatternItemsTest(unittest.TestCase):

    def test_signs(self):
        self.assertEqual(items_of("aZ0 .,-!"), [one(character) for character in "aZ0 .,-!"])

    def test_escapes(self):
        self.assertEqual(items_of("\\n"), [one("\n")])
        self.assertEqual(items_of("\\\\\\?\\[\\(\\<\\*\\@\\N\\t"), [one(character) for character in "\\?[(<*@Nt"])

    def test_any_and_star(self):
        self.assertEqual(items_of("?*"), [(ANY, 1, 1, "greedy"), (ANY, 0, 99, "sparing")])

    def test_words_and_groups(self):
        self.assertEqual(items_of("<(a)>"), ["begin", "(", one("a"), ")", "end"])

    def test_sets(self):
        self.assertEqual(items_of("[a-z_0-9]"), [((stretches("az", "_", "09"), False), 1, 1, "greedy")])
        self.assertEqual(items_of("[!a-z]"), [((stretches("az"), True), 1, 1, "greedy")])
        self.assertEqual(items_of("[\\!a\\-z]"), [((stretches("!", "a", "-", "z"), False), 1, 1, "greedy")])
        self.assertEqual(items_of("[!\\!]"), [((stretches("!"), True), 1, 1, "greedy")])
        self.assertEqual(items_of("[\\--\\]]"), [((stretches("-]"), False), 1, 1, "greedy")])
        self.assertEqual(items_of("[?*[<]"), [((stretches("?", "*", "[", "<"), False), 1, 1, "greedy")])

    def test_backslash_n_in_a_set_is_the_letter(self):
        self.assertEqual(items_of("[\\n]"), [((stretches("n"), False), 1, 1, "greedy")])

    def test_times_and_ways(self):
        self.assertEqual(items_of("a@b@~c{2,13}d{0,1}~e"),
                         [(sign("a"), 1, 99, "greedy"), (sign("b"), 1, 99, "sparing"), (sign("c"), 2, 13, "greedy"),
                          (sign("d"), 0, 1, "sparing"), one("e")])
        self.assertEqual(items_of("a{09,90}"), [(sign("a"), 9, 90, "greedy")])
        self.assertEqual(items_of("?@~[a]{1,2}"), [(ANY, 1, 99, "sparing"), ((stretches("a"), False), 1, 2, "greedy")])

    def test_the_documents_examples(self):
        self.assertEqual(items_of("a{0,3}~b*"), [(sign("a"), 0, 3, "sparing"), one("b"), (ANY, 0, 99, "sparing")])
        digits = (stretches("09"), False)
        self.assertEqual(items_of("([0-9]{1,2})/([0-9]{2,2})"),
                         ["(", (digits, 1, 2, "greedy"), ")", one("/"), "(", (digits, 2, 2, "greedy"), ")"])


# The grammar again, as a regular expression that takes one item.
MEMBER = r"(?:\\.|[^\]\-!\\])"
UNIT = r"(?:\\.|\?|\[!?(?:" + MEMBER + "(?:-" + MEMBER + r")?)+\]|[^\\?\[<>()*\]{}@~])"
ITEM = re.compile(r"(?:[<>()*]|" + UNIT + r"(?:(?:\{(\d\d?),(\d\d?)\}|@)~?)?)")
STRETCH = re.compile("(" + MEMBER + ")(?:-(" + MEMBER + "))?")


def expected_answer(text):
    words = []
    at = 0
    while at < len(text):
        found = ITEM.match(text, at)
        if found is None or not good_times(found) or not good_stretches(found.group()):
            return [-6]
        words.append(found.group() if found.group() in "()" else "x")
        at = found.end()
    written = "".join(words)
    if len(words) > 40 or re.fullmatch(r"(?:x|\(x+\))+", written) is None or written.count("(") > 9:
        return [-6]
    return [len(words), written.count("(")]


def good_times(found):
    return found.group(1) is None or 1 <= int(found.group(2)) >= int(found.group(1))


def good_stretches(item):
    if item[0] != "[":
        return True
    at = 2 if item[1] == "!" else 1
    while item[at] != "]":
        found = STRETCH.match(item, at)
        if found.group(2) is not None and found.group(2)[-1] < found.group(1)[-1]:
            return False
        at = found.end()
    return True


class GrammarTest(unittest.TestCase):

    def compare(self, texts):
        for text in texts:
            self.assertEqual(last(pattern(codes(text))), expected_answer(text), text)

    def test_all_short_texts(self):
        for length in (1, 2, 3):
            self.compare("".join(text) for text in itertools.product("an1[]-!\\{},@~()*<?", repeat=length))

    def test_texts_of_four_and_five_in_a_set(self):
        self.compare("[" + "".join(text) for text in itertools.product("ab-!\\]", repeat=4))
        self.compare("[" + "".join(text) + "]" for text in itertools.product("ab-!\\]", repeat=5))

    def test_texts_in_curly_brackets(self):
        for length in (2, 3, 4, 5):
            self.compare("a{" + "".join(text) + "}" for text in itertools.product("012,~", repeat=length))

    def test_groups(self):
        for length in (4, 5, 6, 7):
            self.compare("".join(text) for text in itertools.product("()a<", repeat=length))
