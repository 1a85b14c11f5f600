"""Lostleast: plans with the least regret and the greatest share, whatever comes."""
