"""Runs the tests of the project and those of ../shared/tests, and fails if one fails.

Each folder of tests has a process of its own: a file in one of them may have the
name of a file in another.
"""

import json
import os
import subprocess
import sys
import unittest
from pathlib import Path

ROOT = Path(__file__).resolve().parent.parent
SHARED = ROOT.parent / "shared" / "tests"
MARK = "counts of this folder: "


def folders():
    """Each folder with tests, and the folder above which its modules have no names."""
    shared = sorted({path.parent for path in SHARED.rglob("test_*.py")}) if SHARED.is_dir() else []
    return [(ROOT / "tests", ROOT)] + [(folder, folder) for folder in shared]


def run_here(folder, top):
    """Runs the tests of one folder in this process, and prints their counts behind the mark."""
    suite = unittest.TestLoader().discover(folder, pattern="test_*.py", top_level_dir=top)
    result = unittest.TextTestRunner(stream=sys.stdout, verbosity=1).run(suite)
    failed = len(result.failures) + len(result.errors) + len(result.unexpectedSuccesses)
    passed = max(0, result.testsRun - failed - len(result.skipped))
    print(MARK + json.dumps([passed, failed, len(result.skipped)]))
    return 0 if result.wasSuccessful() else 1


def run_folder(folder, top):
    """Runs the tests of one folder in a process of its own, and returns their counts."""
    print(f"tests in {folder}", flush=True)
    environment = dict(os.environ, PYTHONPATH=str(ROOT))
    command = [sys.executable, __file__, str(folder), str(top)]
    done = subprocess.run(command, cwd=ROOT, env=environment, stdout=subprocess.PIPE, text=True)
    lines = done.stdout.splitlines()
    told = [line for line in lines if line.startswith(MARK)]
    print("\n".join([line for line in lines if not line.startswith(MARK)]), flush=True)
    passed, failed, skipped = json.loads(told[-1][len(MARK):]) if told else [0, 0, 0]
    # A process that dies tells no counts, and has not passed either.
    if failed == 0 and done.returncode != 0:
        failed = 1
    return passed, failed, skipped


def main():
    if len(sys.argv) == 3:
        return run_here(sys.argv[1], sys.argv[2])
    counts = [run_folder(folder, top) for folder, top in folders()]
    passed, failed, skipped = [sum(column) for column in zip(*counts)]
    print(f"{passed} passed, {failed} failed, {skipped} skipped")
    return 0 if failed == 0 and passed > 0 else 1


if __name__ == "__main__":
    sys.exit(main())
