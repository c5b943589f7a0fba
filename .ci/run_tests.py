"""Runs the tests test_*.py of a folder and prints how many passed: run_tests.py FOLDER TOP."""

import sys
import unittest


def main(folder, top):
    suite = unittest.TestLoader().discover(folder, pattern="test_*.py", top_level_dir=top)
    result = unittest.TextTestRunner(stream=sys.stdout, verbosity=1).run(suite)
    failed = len(result.failures) + len(result.errors) + len(result.unexpectedSuccesses)
    skipped = len(result.skipped)
    # a class or module that can't be set up is an error without being a test that was run
    passed = max(0, result.testsRun - failed - skipped)
    print(f"{passed} passed, {failed} failed, {skipped} skipped", flush=True)
    return 0 if result.wasSuccessful() and result.testsRun > 0 else 1


if __name__ == "__main__":
    sys.exit(main(sys.argv[1], sys.argv[2]))
