"""The script .ci/run, tried on small repositories of its own."""

import pathlib
import shutil
import subprocess
import tempfile
import unittest

SCRIPTS = pathlib.Path(__file__).resolve().parent.parent / ".ci"

GOOD = "import unittest\nclass T(unittest.TestCase):\n    def test_one(self):\n        self.assertEqual(1, 1)\n"
BAD = GOOD.replace("1, 1", "1, 2")
BROKEN = "import treewells.nowhere\n"


def run(own, shared, shell="sh"):
    """Exit code and words of the script, with these texts as test files of the project and as shared ones."""
    with tempfile.TemporaryDirectory() as place:
        top = pathlib.Path(place) / "main"
        shutil.copytree(SCRIPTS, top / ".ci", ignore=shutil.ignore_patterns("__pycache__"))
        for folder, texts in ((top / "tests", own), (top.parent / "shared" / "tests", shared)):
            if texts is not None:
                folder.mkdir(parents=True)
                for number, text in enumerate(texts):
                    (folder / f"test_{number}.py").write_text(text)
        done = subprocess.run([shell, ".ci/run"], cwd=top, stdout=subprocess.PIPE, stderr=subprocess.STDOUT, text=True)
        return done.returncode, done.stdout


class Script(unittest.TestCase):
    def test_all_tests_run_and_are_counted(self):
        code, words = run([GOOD, GOOD], [GOOD])
        self.assertEqual(code, 0, words)
        self.assertIn("3 tests ran", words)
        self.assertEqual(run([GOOD], [])[0], 0)

    def test_it_runs_by_either_shell(self):
        for shell in ("sh", "bash"):
            code, words = run([GOOD], [GOOD], shell)
            self.assertEqual(code, 0, words)

    def test_one_that_fails_fails_all(self):
        for own, shared in (([BAD], [GOOD]), ([GOOD], [BAD]), ([GOOD, BAD, GOOD], []), ([GOOD], [BROKEN])):
            self.assertEqual(run(own, shared)[0], 1, (own, shared))

    def test_nothing_to_run_or_a_missing_folder_fails(self):
        for own, shared in (([], []), (None, [GOOD]), ([GOOD], None)):
            self.assertEqual(run(own, shared)[0], 1, (own, shared))


if __name__ == "__main__":
    unittest.main()
