"""Run tests: run_tests.py FOLDER TOP [PATTERN]. Exit 1 if one fails, 5 if none was run."""

import sys
import unittest


def main(folder, top, pattern="test_*.py"):
    suite = unittest.TestLoader().discover(folder, pattern=pattern, top_level_dir=top)
    result = unittest.TextTestRunner(stream=sys.stdout).run(suite)
    if not result.wasSuccessful():
        return 1
    if result.testsRun == len(result.skipped):
        print("no test was run")
        return 5
    return 0


if __name__ == "__main__":
    sys.exit(main(*sys.argv[1:]))
