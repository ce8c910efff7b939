"""Runs the tests of the project and those under ../shared/tests, and ends with a line that counts them."""

import sys
import unittest
from pathlib import Path

ROOT = Path(__file__).resolve().parent.parent
OWN_TESTS = ROOT / "tests"
SHARED_TESTS = ROOT.parent / "shared" / "tests"


def found(folder, top):
    # A new loader each time: a loader keeps the top folder of its first search.
    return unittest.TestLoader().discover(str(folder), pattern="test_*.py", top_level_dir=str(top))


def all_tests():
    # The project's tests are named from the top (tests.test_x), so a shared file may have the same name as one of them.
    suite = unittest.TestSuite([found(OWN_TESTS, ROOT)])
    for folder in sorted({path.parent for path in SHARED_TESTS.rglob("test_*.py")}):
        suite.addTest(found(folder, folder))
    return suite


def failed_tests(result):
    """The names of the failed tests: one with several failed parts counts once."""
    wrong = result.failures + result.errors
    names = {getattr(test, "test_case", test).id() for test, _ in wrong}
    return names | {test.id() for test in result.unexpectedSuccesses}


def main():
    sys.path.insert(0, str(ROOT))
    result = unittest.TextTestRunner(stream=sys.stdout, verbosity=1).run(all_tests())
    failed = len(failed_tests(result))
    skipped = len(result.skipped)
    passed = max(0, result.testsRun - failed - skipped)
    print(f"{passed} passed, {failed} failed" + (f", {skipped} skipped" if skipped else ""))
    return 0 if result.wasSuccessful() and passed > 0 else 1


if __name__ == "__main__":
    sys.exit(main())
