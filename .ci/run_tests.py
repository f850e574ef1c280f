"""Runs every test file of the project and of ../shared/tests, and fails if one fails.

Each file runs in a Python of its own, so that two files of one name don't get in each other's way.
"""

import os
import pathlib
import re
import subprocess
import sys

TOP = pathlib.Path(__file__).resolve().parent.parent
FOLDERS = (TOP / "tests", TOP.parent / "shared" / "tests")


def run_file(path):
    """How many tests of the file ran, and whether all passed."""
    surroundings = dict(os.environ, PYTHONPATH=f"{TOP}{os.pathsep}{path.parent}", PYTHONDONTWRITEBYTECODE="1")
    done = subprocess.run([sys.executable, "-m", "unittest", path.stem], cwd=TOP, env=surroundings,
                          stdout=subprocess.PIPE, stderr=subprocess.STDOUT, text=True)
    count = re.findall(r"^Ran (\d+) tests?", done.stdout, re.MULTILINE)
    passed = done.returncode == 0 and len(count) > 0
    print(f"{path}: {'passed' if passed else 'FAILED'}")
    if not passed:
        print(done.stdout)
    return int(count[-1]) if count else 0, passed


def main():
    missing = [folder for folder in FOLDERS if not folder.is_dir()]
    for folder in missing:
        print(f"{folder}: missing")
    paths = [path for folder in FOLDERS for path in sorted(folder.rglob("test_*.py"))]
    results = [run_file(path) for path in paths]
    total = sum(count for count, passed in results)
    print(f"{total} tests ran, in {len(paths)} files")
    good = not missing and total > 0 and all(passed for count, passed in results)
    print("all passed" if good else "FAILED")
    return 0 if good else 1


sys.exit(main())
